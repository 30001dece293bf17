/-
  A book of sessions in memory; the contracts of lease's New, cut, later, set, and of strings.Clone.
-/
import Derived.Test.YtbeeklpfbnhdnaaLsMap
import Derived.Test.YtbeeklpfbnhdnaaShelf
namespace Go.Proofs.Ytbeeklpfbnhdnaa
open Go.ChangeShapes Go.WideShapes Go.ChangeAt Go.RowKit Go.Maps Go.WideMaps
set_option linter.unusedVariables false
set_option linter.unusedSimpArgs false

/-- A time that may be. -/
def cutL (t : Int) : Int := if t < 0 then 0 else if 2199023255552 < t then 2199023255552 else t
theorem cutL_le (t : Int) : 0 ≤ cutL t ∧ cutL t ≤ 2199023255552 := by unfold cutL; split; omega; split <;> omega
theorem cutL_in {t : Int} (h : 0 ≤ t) (h2 : t ≤ 2199023255552) : cutL t = t := by unfold cutL; rw [if_neg (by omega), if_neg (by omega)]
theorem lcut_any (t : Int) (w : World) : Calls Try.prog 38 #[.int .i64 t] w fun e w' => e = .returned (.int .i64 (cutL t)) ∧ w = w' := by
  obtain ⟨m, hm⟩ : ∃ m, (if t < 0 then 0 else t) = m := ⟨_, rfl⟩
  have q1 := fun w ts ty => run_maxE Try.prog t 0 m hm w ts ty
  have q2 := fun w ts ty => run_minE Try.prog m 2199023255552 (cutL t) (by rw [← hm]; unfold cutL; split <;> (try split) <;> omega) w ts ty
  clear hm
  go_enter Try.func38, Try.ntmps38
  go_wp2
  go_ret
  exact ⟨rfl, rfl⟩
theorem later_any (t ttl : Int) (w : World) (h0 : 0 ≤ ttl) (h1 : ttl ≤ 2199023255552) : Calls Try.prog 39 #[.int .i64 t, .int .i64 ttl] w fun e w' => e = .returned (.int .i64 (cutL (cutL t + ttl))) ∧ w = w' := by
  obtain ⟨c, hc⟩ : ∃ c, cutL t = c := ⟨_, rfl⟩
  have hr := cutL_le t
  rw [hc] at hr ⊢
  have HC := hid hc
  have C1 := hid (fun w => lcut_any t w)
  have C2 := hid (fun w => lcut_any (c + ttl) w)
  rw [hc] at C1
  have ov : (c + ttl : Int) ≤ 9223372036854775807 ∧ -9223372036854775808 ≤ (c + ttl : Int) := by omega
  clear hc
  obtain ⟨s, hs⟩ : ∃ s, c + ttl = s := ⟨_, rfl⟩
  have q3 : IntKind.i64.wrap (c + ttl) = s := by rw [IntWalk.i64_in _ (by omega), hs]
  rw [hs] at C2 ⊢
  clear hs ov hr
  go_enter Try.func39, Try.ntmps39
  go_wp2_with (first
    | (go_at_call 38; (with_reducible refine (C1.out _).mono ?_); rintro e w1 ⟨rfl, rfl⟩)
    | (go_at_call 38; (with_reducible refine (C2.out _).mono ?_); rintro e w2 ⟨rfl, rfl⟩))
  go_ret
  exact ⟨rfl, rfl⟩
theorem sclone_any (s : ByteArray) (w : World) (hs : s.size ≤ 281474976710656) : Calls Try.prog 48 #[.string s] w fun e w' => e = .returned (.string s) ∧ Below w.heap.size w w' := by
  go_enter Try.func48, Try.ntmps48
  go_wp2_with fail
  refine (Try.stringslite_Clone s _ hs).mono ?_
  rintro e w1 ⟨rfl, hb⟩
  have HB := hid hb
  clear hb
  go_wp2
  go_ret
  exact ⟨rfl, HB.out⟩
theorem OkF.le {f : ByteArray} (h : OkF f) : f.size ≤ 281474976710656 := by unfold OkF at h; omega

/-- What of a session is fit. -/
structure FitS (s : SeL) : Prop where
  rise : RiseT s.told
  req : ∀ p ∈ s.told, IsU p.1
  few : s.told.length ≤ 256
  dl : 0 ≤ s.dl ∧ s.dl ≤ 2199023255552
  ttl : 0 ≤ s.ttl ∧ s.ttl ≤ 2199023255552
/-- A book at b, its map at d, of at most n stores: these sessions. -/
structure BkAt (w : World) (base b d n : Nat) (l : List SeL) : Prop where
  blk : Blk w b 77 #[.map (some d)]
  map : SsM w d n l
  ans : ∀ s ∈ l, AnM w s.m n s.told
  keys : KeysL l
  rise : RiseL l
  fit : ∀ s ∈ l, FitS s
  ne : b ≠ d
  far : ∀ s ∈ l, ∀ x, s.m = some x → x ≠ b ∧ x ≠ d ∧ base ≤ x
  one : ∀ s ∈ l, ∀ t ∈ l, ∀ x, s.m = some x → t.m = some x → s = t
  low : base ≤ b ∧ base ≤ d
/-- The blocks that a book's calls turn. -/
def OwnL (d : Nat) (l : List SeL) (i : Nat) : Prop := i = d ∨ ∃ s ∈ l, s.m = some i
theorem BkAt.lt {w : World} {base b d n : Nat} {l : List SeL} (h : BkAt w base b d n l) : b < w.heap.size ∧ d < w.heap.size := ⟨h.blk.lt, h.map.lt⟩
theorem BkAt.own_low {w : World} {base b d n : Nat} {l : List SeL} (h : BkAt w base b d n l) {i : Nat} (hi : OwnL d l i) : base ≤ i := by
  rcases hi with rfl | ⟨s, hs, hm⟩
  · exact h.low.2
  · exact (h.far s hs i hm).2.2
theorem BkAt.own_lt {w : World} {base b d n : Nat} {l : List SeL} (h : BkAt w base b d n l) {i : Nat} (hi : OwnL d l i) : i < w.heap.size := by
  rcases hi with rfl | ⟨s, hs, hm⟩
  · exact h.map.lt
  · have := h.ans s hs
    rw [hm] at this
    exact this.lt
theorem BkAt.stay {w w' : World} {base b d n : Nat} {l : List SeL} (h : BkAt w base b d n l) (hb : w'.heap[b]? = w.heap[b]?) (ho : ∀ i, OwnL d l i → w'.heap[i]? = w.heap[i]?) : BkAt w' base b d n l :=
  ⟨hb.trans h.blk, h.map.same (ho d (.inl rfl)), fun s hs => (h.ans s hs).same (fun x hx => ho x (.inr ⟨s, hs, hx⟩)), h.keys, h.rise, h.fit, h.ne, h.far, h.one, h.low⟩
theorem BkAt.turns {w w' : World} {base b d n : Nat} {l : List SeL} {S : Nat → Prop} (h : BkAt w base b d n l) (t : TurnsD S w w') (hb : ¬ S b) (ho : ∀ i, OwnL d l i → ¬ S i) : BkAt w' base b d n l :=
  h.stay (t.block b h.lt.1 hb) (fun i hi => t.block i (h.own_lt hi) (ho i hi))
theorem BkAt.on {w w' : World} {base b d n : Nat} {l : List SeL} (h : BkAt w base b d n l) (k : Below w.heap.size w w') : BkAt w' base b d n l :=
  h.stay (k.block b h.lt.1) (fun i hi => k.block i (h.own_lt hi))
theorem BkAt.own_b {w : World} {base b d n : Nat} {l : List SeL} (h : BkAt w base b d n l) : ¬ OwnL d l b := by
  rintro (e | ⟨s, hs, hm⟩)
  · exact h.ne e
  · exact (h.far s hs b hm).1 rfl
theorem BkAt.mono {w : World} {base b d n n' : Nat} {l : List SeL} (h : BkAt w base b d n l) (hn : n ≤ n') : BkAt w base b d n' l :=
  ⟨h.blk, h.map.mono hn, fun s hs => (h.ans s hs).mono hn, h.keys, h.rise, h.fit, h.ne, h.far, h.one, h.low⟩
/-- A session is stored; its answers' map is its own. -/
theorem BkAt.put {w w' : World} {base b d n n' : Nat} {l : List SeL} {s : SeL} (h : BkAt w base b d n l) (hn : n ≤ n') (hm : SsM w' d n' (putL s l)) (hk : IsU s.num ∧ OkF s.foot) (hs : FitS s) (ha : AnM w' s.m n' s.told)
    (hb : w'.heap[b]? = w.heap[b]?) (ho : ∀ t ∈ l, ¬ (s.num = t.num ∧ s.foot = t.foot) → ∀ x, t.m = some x → w'.heap[x]? = w.heap[x]? ∧ s.m ≠ some x) (hx : ∀ x, s.m = some x → x ≠ b ∧ x ≠ d ∧ base ≤ x) : BkAt w' base b d n' (putL s l) := by
  have hmem : ∀ t ∈ putL s l, t = s ∨ (t ∈ l ∧ ¬ (s.num = t.num ∧ s.foot = t.foot)) := fun t ht => by
    by_cases e : s.num = t.num ∧ s.foot = t.foot
    · exact .inl (h.rise.put.one ht (mem_putL_self s l) ⟨e.1.symm, e.2.symm⟩)
    · rcases mem_putL ht with rfl | ht
      · exact .inl rfl
      · exact .inr ⟨ht, e⟩
  refine ⟨hb.trans h.blk, hm, fun t ht => ?_, h.keys.put hk, h.rise.put, fun t ht => ?_, h.ne, fun t ht => ?_, fun t ht u hu x h1 h2 => ?_, h.low⟩
  · rcases hmem t ht with rfl | ⟨ht, e⟩
    · exact ha
    · exact ((h.ans t ht).same (fun x hx => (ho t ht e x hx).1)).mono hn
  · rcases hmem t ht with rfl | ⟨ht, e⟩
    · exact hs
    · exact h.fit t ht
  · rcases hmem t ht with rfl | ⟨ht, e⟩
    · exact hx
    · exact h.far t ht
  · rcases hmem t ht with h0 | ⟨ht, e⟩
    · subst h0
      rcases hmem u hu with h3 | ⟨hu, e⟩
      · exact h3.symm
      · exact absurd h1 (ho u hu e x h2).2
    · rcases hmem u hu with h3 | ⟨hu, e2⟩
      · rw [h3] at h2; exact absurd h2 (ho t ht e x h1).2
      · exact h.one t ht u hu x h1 h2

theorem lnew_any (w : World) : Calls Try.prog 8 #[] w fun e w' => e = .returned (.pointer (some ⟨w.heap.size + 1, 0, none⟩)) ∧ Below w.heap.size w w' ∧ BkAt w' w.heap.size (w.heap.size + 1) w.heap.size 0 [] := by
  have hmm := @run_makeMap Try.prog
  have HM := hid (SsM.made w)
  have HB : Hid (Blk ((w.alloc (.map #[] 0)).alloc (.cells #[.map (some w.heap.size)] 77)) (w.heap.size + 1) 77 #[.map (some w.heap.size)]) := hid (by have h := Blk.new (w.alloc (.map #[] 0)) 77 #[.map (some w.heap.size)]; simpa using h)
  have HL : Hid (Below w.heap.size w ((w.alloc (.map #[] 0)).alloc (.cells #[.map (some w.heap.size)] 77))) := hid (((Below.refl _ w).alloc (Nat.le_refl _) _).alloc (by simp) _)
  go_enter Try.func8, Try.ntmps8
  go_wp2
  go_ret
  refine ⟨rfl, HL.out, HB.out, HM.out.same (Below.heap_alloc _ _ _ HM.out.lt), ?_, ?_, ?_, ?_, by omega, ?_, ?_, by omega⟩
  · intro s hs; cases hs
  · intro s hs; cases hs
  · exact List.Pairwise.nil
  · intro s hs; cases hs
  · intro s hs; cases hs
  · intro s hs; cases hs
end Go.Proofs.Ytbeeklpfbnhdnaa
