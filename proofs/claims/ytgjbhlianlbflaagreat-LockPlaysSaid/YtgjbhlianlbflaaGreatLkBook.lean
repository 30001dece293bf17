/-
  A book of locks in memory; the contracts of lock's New, clone, right, Counter, behind.
-/
import Derived.Test.YtgjbhlianlbflaaGreatLkMap
import Derived.Test.YtgjbhlianlbflaaGreatShelf
namespace Go.Proofs.YtgjbhlianlbflaaGreat
open Go.ChangeShapes Go.WideShapes Go.ChangeAt Go.RowKit Go.Maps Go.WideMaps
set_option linter.unusedVariables false
set_option linter.unusedSimpArgs false

/-- A book at b, its maps at de and dc, of at most n stores each: these entries and counters. -/
structure BkK (w : World) (base b de dc n : Nat) (first : Int) (l : List EnL) (cs : CnL) : Prop where
  blk : Blk w b 78 #[.int .u64 first, .map (some de), .map (some dc)]
  es : EsM w de n l
  ct : CsM w dc n cs
  good : GoodK first l cs
  many : l.length ≤ n ∧ ∀ e ∈ l, e.stamp ≤ n
  ne : b ≠ de ∧ b ≠ dc ∧ de ≠ dc
  low : base ≤ b ∧ base ≤ de ∧ base ≤ dc
def OwnK (de dc : Nat) (i : Nat) : Prop := i = de ∨ i = dc
theorem BkK.lt {w : World} {base b de dc n : Nat} {first : Int} {l : List EnL} {cs : CnL} (h : BkK w base b de dc n first l cs) : b < w.heap.size ∧ de < w.heap.size ∧ dc < w.heap.size := ⟨h.blk.lt, h.es.lt, h.ct.lt⟩
theorem BkK.on {w w' : World} {base b de dc n : Nat} {first : Int} {l : List EnL} {cs : CnL} (h : BkK w base b de dc n first l cs) (k : Below w.heap.size w w') : BkK w' base b de dc n first l cs :=
  ⟨(k.block b h.lt.1).trans h.blk, h.es.same (k.block de h.lt.2.1), h.ct.same (k.block dc h.lt.2.2), h.good, h.many, h.ne, h.low⟩
theorem BkK.turns {w w' : World} {base b de dc n : Nat} {first : Int} {l : List EnL} {cs : CnL} {S : Nat → Prop} (h : BkK w base b de dc n first l cs) (t : TurnsD S w w') (hb : ¬ S b) (h1 : ¬ S de) (h2 : ¬ S dc) : BkK w' base b de dc n first l cs :=
  ⟨(t.block b h.lt.1 hb).trans h.blk, h.es.same (t.block de h.lt.2.1 h1), h.ct.same (t.block dc h.lt.2.2 h2), h.good, h.many, h.ne, h.low⟩
theorem BkK.mono {w : World} {base b de dc n n' : Nat} {first : Int} {l : List EnL} {cs : CnL} (h : BkK w base b de dc n first l cs) (hn : n ≤ n') : BkK w base b de dc n' first l cs :=
  ⟨h.blk, h.es.mono hn, h.ct.mono hn, h.good, ⟨by have := h.many.1; omega, fun e he => by have := h.many.2 e he; omega⟩, h.ne, h.low⟩

theorem BkK.got {w : World} {base b de dc n : Nat} {first : Int} {l : List EnL} {cs : CnL} (h : BkK w base b de dc n first l cs) (p : ByteArray) (u : Int) (f : ByteArray) : OkK (getE l p u f).path ∧ OkK (getE l p u f).foot := by
  unfold getE
  cases hf : findE l p u f with
  | none => exact ⟨by show OkK ⟨#[]⟩; unfold OkK; decide, by show OkK ⟨#[]⟩; unfold OkK; decide⟩
  | some e => have := h.good.keys e (findE_mem hf).1; exact ⟨this.2.1, this.2.2⟩

theorem lknew_any (first : Int) (w : World) (hf : IsUk first) : Calls Tryz.prog 8 #[.int .u64 first] w fun e w' => e = .returned (.pointer (some ⟨w.heap.size + 2, 0, none⟩)) ∧ Below w.heap.size w w' ∧
    BkK w' w.heap.size (w.heap.size + 2) w.heap.size (w.heap.size + 1) 0 first [] [] := by
  have hmm := @run_makeMap Tryz.prog
  have H1 := hid (EsM.made w)
  have H2 : Hid (CsM ((w.alloc (.map #[] 0)).alloc (.map #[] 0)) (w.heap.size + 1) 0 []) := hid (by have := CsM.made (w.alloc (.map #[] 0)); simpa using this)
  have HB : Hid (Blk (((w.alloc (.map #[] 0)).alloc (.map #[] 0)).alloc (.cells #[.int .u64 first, .map (some w.heap.size), .map (some (w.heap.size + 1))] 78)) (w.heap.size + 2) 78 #[.int .u64 first, .map (some w.heap.size), .map (some (w.heap.size + 1))]) := hid (by have h := Blk.new ((w.alloc (.map #[] 0)).alloc (.map #[] 0)) 78 #[.int .u64 first, .map (some w.heap.size), .map (some (w.heap.size + 1))]; simpa using h)
  have HL : Hid (Below w.heap.size w (((w.alloc (.map #[] 0)).alloc (.map #[] 0)).alloc (.cells #[.int .u64 first, .map (some w.heap.size), .map (some (w.heap.size + 1))] 78))) := hid ((((Below.refl _ w).alloc (Nat.le_refl _) _).alloc (by simp) _).alloc (by simp; omega) _)
  go_enter Tryz.func8, Tryz.ntmps8
  go_wp2
  go_ret
  refine ⟨rfl, HL.out, HB.out, H1.out.same ((Below.heap_alloc _ _ _ (by simp; omega)).trans (Below.heap_alloc _ _ _ H1.out.lt)), H2.out.same (Below.heap_alloc _ _ _ H2.out.lt), GoodK.nil hf, ⟨Nat.le_refl _, fun e he => (by cases he)⟩, by omega, by omega⟩

theorem lkfrozen6 {w : World} {g : Nat} {t : TypeId} {cs : Array Value} (h : Blk w g t cs) : w.frozen? ⟨g, 0, none⟩ = false ∧ w.frozen? ⟨g, 1, none⟩ = false ∧ w.frozen? ⟨g, 2, none⟩ = false ∧ w.frozen? ⟨g, 3, none⟩ = false ∧ w.frozen? ⟨g, 4, none⟩ = false ∧ w.frozen? ⟨g, 5, none⟩ = false :=
  ⟨h.frozen 0, h.frozen 1, h.frozen 2, h.frozen 3, h.frozen 4, h.frozen 5⟩
/-- An entry stored into a box, cell by cell. -/
def put6 (w : World) (g : Nat) (a b c d e x : Value) : World := (((((w.setCell ⟨g, 0, none⟩ a).setCell ⟨g, 1, none⟩ b).setCell ⟨g, 2, none⟩ c).setCell ⟨g, 3, none⟩ d).setCell ⟨g, 4, none⟩ e).setCell ⟨g, 5, none⟩ x
theorem put6_blk {w : World} {g : Nat} {T : TypeId} {a b c d e x : Value} (h : Blk w g T #[a, b, c, d, e, x]) (a' b' c' d' e' x' : Value) : Blk (put6 w g a' b' c' d' e' x') g T #[a', b', c', d', e', x'] := by
  have h7 := (((((h.set_ 0 a').set_ 1 b').set_ 2 c').set_ 3 d').set_ 4 e').set_ 5 x'
  simp only [List.setIfInBounds_toArray, List.set_cons_succ, List.set_cons_zero] at h7
  exact h7
theorem put6_below {w w0 : World} {g k : Nat} (hk : Below k w0 w) (hg : k ≤ g) (a b c d e x : Value) : Below k w0 (put6 w g a b c d e x) :=
  (((((hk.setCell (p := ⟨g, 0, none⟩) hg _).setCell (p := ⟨g, 1, none⟩) hg _).setCell (p := ⟨g, 2, none⟩) hg _).setCell (p := ⟨g, 3, none⟩) hg _).setCell (p := ⟨g, 4, none⟩) hg _).setCell (p := ⟨g, 5, none⟩) hg _
theorem lksclone_any (s : ByteArray) (w : World) (hs : s.size ≤ 281474976710656) : Calls Tryz.prog 69 #[.string s] w fun e w' => e = .returned (.string s) ∧ Below w.heap.size w w' := by
  go_enter Tryz.func69, Tryz.ntmps69
  go_wp2_with fail
  refine (Tryz.stringslite_Clone s _ hs).mono ?_
  rintro e w1 ⟨rfl, hb⟩
  have HB := hid hb
  clear hb
  go_wp2
  go_ret
  exact ⟨rfl, HB.out⟩
theorem OkK.le {f : ByteArray} (h : OkK f) : f.size ≤ 281474976710656 := by unfold OkK at h; omega
abbrev zeroEC : Array Value := #[.string ⟨#[]⟩, .int .u64 0, .string ⟨#[]⟩, .int .i64 0, .int .u64 0, .int .i64 0]
set_option maxRecDepth 100000 in
set_option maxHeartbeats 1000000 in
theorem lkclone_any (e : EnL) (w : World) (hp : OkK e.path) (hf : OkK e.foot) : Calls Tryz.prog 42 #[entV e] w fun r w' => r = .returned (entV e) ∧ Below w.heap.size w w' := by
  obtain ⟨p, u, f, mo, n, st⟩ := e
  have C1 := hid (fun w => lksclone_any p w hp.le)
  have C2 := hid (fun w => lksclone_any f w hf.le)
  clear hp hf
  go_enter Tryz.func42, Tryz.ntmps42
  go_upto_region 1 with fail
  obtain ⟨W, hW⟩ : ∃ W, (w.alloc (.cells #[.string p, .int .u64 u, .string f, .int .i64 mo, .int .u64 n, .int .i64 st] 44)).alloc (.cells zeroEC 44) = W := ⟨_, rfl⟩
  rw [hW]
  obtain ⟨K0, K1, KB⟩ := ltwo_new hW
  clear hW
  obtain ⟨k, hk⟩ : ∃ k, w.heap.size = k := ⟨_, rfl⟩
  rw [hk] at K0 K1 KB ⊢
  have HK := hid hk
  clear hk
  have y0 : W.cell? ⟨k, 0, none⟩ = some (.string p) := (K0.out.cell 0).trans rfl
  go_wp2_with (first
    | (go_at_call 69; (with_reducible refine (C1.out _).mono ?_); rintro r w1 ⟨rfl, b1⟩; have K01 := hid (K0.out.below b1 K0.out.lt); have K11 := hid (K1.out.below b1 K1.out.lt); have B1 := hid (KB.out.trans (b1.mono (by have := K0.out.lt; omega))); clear b1 K0 K1 KB y0; have z1 := K01.out.frozen 0; have z0 : w1.cell? ⟨k, 0, none⟩ = some (.string p) := (K01.out.cell 0).trans rfl; have z2 : w1.cell? ⟨k, 2, none⟩ = some (.string f) := (K01.out.cell 2).trans rfl)
    | (go_at_call 69; (with_reducible refine (C2.out _).mono ?_); rintro r w2 ⟨rfl, b2⟩
       have K02 := hid ((K01.out.set_ 0 (.string p)).below b2 (by have := K01.out.lt; simpa using this))
       have K12 := hid ((K11.out.far (p := ⟨k, 0, none⟩) (by simp) (.string p)).below b2 (by have := K11.out.lt; simpa using this))
       have B2 := hid ((B1.out.setCell (p := ⟨k, 0, none⟩) (Nat.le_refl _) (.string p)).trans (b2.mono (by have := K01.out.lt; simp; omega)))
       clear b2 z0 z1 z2 K01 K11 B1
       simp only [List.setIfInBounds_toArray, List.set_cons_succ, List.set_cons_zero] at K02
       obtain ⟨y0, y1, y2, y3, y4, y5⟩ := lcells6 K02.out
       have f2 := K02.out.frozen 2
       obtain ⟨x0, x1, x2, x3, x4, x5⟩ := lcells6 K12.out
       obtain ⟨g0, g1, g2, g3, g4, g5⟩ := lkfrozen6 K12.out))
  have Q := put6_blk (K12.out.far (p := ⟨k, 2, none⟩) (by simp) (.string f)) (.string p) (.int .u64 u) (.string f) (.int .i64 mo) (.int .u64 n) (.int .i64 st)
  have QB := put6_below (B2.out.setCell (p := ⟨k, 2, none⟩) (Nat.le_refl _) (.string f)) (Nat.le_succ k) (.string p) (.int .u64 u) (.string f) (.int .i64 mo) (.int .u64 n) (.int .i64 st)
  unfold put6 at Q QB
  obtain ⟨w9, hw9⟩ : ∃ w9, (((((((w2.setCell ⟨k, 2, none⟩ (.string f)).setCell ⟨k + 1, 0, none⟩ (.string p)).setCell ⟨k + 1, 1, none⟩ (.int .u64 u)).setCell ⟨k + 1, 2, none⟩ (.string f)).setCell ⟨k + 1, 3, none⟩ (.int .i64 mo)).setCell ⟨k + 1, 4, none⟩ (.int .u64 n)).setCell ⟨k + 1, 5, none⟩ (.int .i64 st)) = w9 := ⟨_, rfl⟩
  rw [hw9] at Q QB ⊢
  obtain ⟨c0, c1, c2, c3, c4, c5⟩ := lcells6 Q
  refine bodyPost_ret (v := entV ⟨p, u, f, mo, n, st⟩) (by simp [results, Tryz.results42, go_sem, c0, c1, c2, c3, c4, c5]) rfl ⟨rfl, by rw [HK.out]; exact QB⟩

theorem lkright_any (p : ByteArray) (mode : Int) (w : World) (hs : p.size ≤ 4611686018427387903) : Calls Tryz.prog 36 #[.string p, .int .i64 mode] w (Asks (.bool (rightE p mode)) w) := by
  have HC := hid (fun w => right_any p w hs)
  obtain ⟨r, hr⟩ : ∃ r, right (L p) = r := ⟨_, rfl⟩
  unfold rightE
  rw [hr] at HC ⊢
  clear hr
  cases r with
  | false =>
    go_enter Tryz.func36, Tryz.ntmps36
    go_wp2_with (go_at_call 43; (with_reducible refine (HC.out _).mono ?_); rintro e w1 ⟨rfl, b1⟩; have B1 := hid b1; clear b1)
    go_ret
    exact ⟨rfl, B1.out⟩
  | true =>
    by_cases h1 : mode = 1
    · subst h1
      go_enter Tryz.func36, Tryz.ntmps36
      go_wp2_with (go_at_call 43; (with_reducible refine (HC.out _).mono ?_); rintro e w1 ⟨rfl, b1⟩; have B1 := hid b1; clear b1)
      go_ret
      exact ⟨rfl, B1.out⟩
    · by_cases h2 : mode = 2
      · subst h2
        go_enter Tryz.func36, Tryz.ntmps36
        go_wp2_with (go_at_call 43; (with_reducible refine (HC.out _).mono ?_); rintro e w1 ⟨rfl, b1⟩; have B1 := hid b1; clear b1)
        go_ret
        exact ⟨rfl, B1.out⟩
      · have hm : Hid ((decide (mode = 1) || decide (mode = 2)) = false) := hid (by simp [h1, h2])
        have e1 : (mode == 1) = false := by simpa using h1
        have e2 : (mode == 2) = false := by simpa using h2
        go_enter Tryz.func36, Tryz.ntmps36
        go_wp2_with (go_at_call 43; (with_reducible refine (HC.out _).mono ?_); rintro e w1 ⟨rfl, b1⟩; have B1 := hid b1; clear b1)
        go_ret
        exact ⟨by rw [hm.out]; rfl, B1.out⟩

set_option maxRecDepth 100000 in
theorem lkcounter_any (base b de dc n : Nat) (first : Int) (l : List EnL) (cs : CnL) (p : ByteArray) (w : World) (h : BkK w base b de dc n first l cs) (hp : OkK p) :
    Calls Tryz.prog 14 #[.pointer (some ⟨b, 0, none⟩), .string p] w fun e w' => e = .returned (.int .u64 (cntE first cs p)) ∧ w = w' := by
  have lk := h.ct.look hp
  have HB := hid h.blk
  have c0 : w.cell? ⟨b, 0, none⟩ = some (.int .u64 first) := (HB.out.cell 0).trans rfl
  have c2 : w.cell? ⟨b, 2, none⟩ = some (.map (some dc)) := (HB.out.cell 2).trans rfl
  unfold cntE
  obtain ⟨o, ho⟩ : ∃ o, cs.find? (fun c => decide (c.1 = p)) = o := ⟨_, rfl⟩
  rw [ho] at lk ⊢
  clear ho h
  cases o with
  | none =>
    simp only [Option.isSome] at lk
    obtain ⟨z, hz⟩ : ∃ z : Int, ((none : Option (ByteArray × Int)).map (·.2)).getD 0 = z := ⟨_, rfl⟩
    rw [hz] at lk
    clear hz
    go_enter Tryz.func14, Tryz.ntmps14
    go_wp2
    go_ret
    exact ⟨rfl, rfl⟩
  | some c =>
    obtain ⟨q, m⟩ := c
    simp only [Option.isSome] at lk
    obtain ⟨z, hz⟩ : ∃ z : Int, ((some (q, m)).map (·.2)).getD 0 = z := ⟨_, rfl⟩
    rw [hz] at lk
    have HZ : Hid (z = m) := hid hz.symm
    clear hz
    go_enter Tryz.func14, Tryz.ntmps14
    go_wp2
    go_ret
    exact ⟨ret_num HZ.out, rfl⟩
end Go.Proofs.YtgjbhlianlbflaaGreat
