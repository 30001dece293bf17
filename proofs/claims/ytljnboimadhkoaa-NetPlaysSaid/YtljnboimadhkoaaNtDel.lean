/-
  slices.Delete of one frame.
-/
import Derived.Test.YtljnboimadhkoaaNtBase
import Derived.Deep.RegionLaw
import Derived.Lib.SliceRun
namespace Go.Proofs.Ytljnboimadhkoaa
open Go.ChangeShapes Go.WideShapes Go.ChangeAt Go.RowKit Go.Lib
set_option linter.unusedVariables false
set_option linter.unusedSimpArgs false

def setAllN (cs : Array Value) : Nat → List Value → Array Value
  | _, [] => cs
  | o, v :: r => setAllN (cs.setIfInBounds o v) (o + 1) r
theorem setAllN_size : ∀ (vs : List Value) (o : Nat) (cs : Array Value), (setAllN cs o vs).size = cs.size
  | [], _, _ => rfl
  | v :: r, o, cs => by rw [setAllN, setAllN_size r]; simp
theorem setAllN_get : ∀ (vs : List Value) (o : Nat) (cs : Array Value) (j : Nat), o + vs.length ≤ cs.size → (setAllN cs o vs)[j]? = if o ≤ j ∧ j < o + vs.length then vs[j - o]? else cs[j]?
  | [], o, cs, j, h => by rw [setAllN, if_neg (by simp)]
  | v :: r, o, cs, j, h => by
    rw [List.length_cons] at h
    rw [setAllN, setAllN_get r (o + 1) _ j (by simp; omega), List.length_cons, Array.getElem?_setIfInBounds]
    by_cases h1 : o + 1 ≤ j ∧ j < o + 1 + r.length
    · rw [if_pos h1, if_pos (by omega), show j - o = (j - (o + 1)) + 1 by omega, List.getElem?_cons_succ]
    · rw [if_neg h1]
      by_cases h2 : o = j
      · subst h2
        rw [if_pos rfl, if_pos (by omega), if_pos (by omega), Nat.sub_self, List.getElem?_cons_zero]
      · rw [if_neg h2, if_neg (by omega)]
theorem Blk.setCells {g : Nat} {T : TypeId} : ∀ (vs : List Value) (o : Nat) {w : World} {cs : Array Value}, Blk w g T cs → Blk (w.setCells g o vs) g T (setAllN cs o vs)
  | [], _, _, _, h => h
  | v :: r, o, w, cs, h => by
    rw [World.setCells, setAllN]
    exact Blk.setCells r (o + 1) (h.set_ o v)
theorem only_setCells {g : Nat} : ∀ (vs : List Value) (o : Nat) {a w : World}, a.grownBy w (some g) → a.grownBy (w.setCells g o vs) (some g)
  | [], _, _, _, h => h
  | v :: r, o, a, w, h => by
    rw [World.setCells]
    exact only_setCells r (o + 1) (only_setCell h (.inl rfl) v)
/-- What is left when one is taken out. -/
theorem cut_list (cur : List Value) (n i cap : Nat) (xs z : List Value) (hi : i < n) (hc : n ≤ cap) (hcur : cur.length = cap * 3) (hx : cur.take (n * 3) = xs) (c2 : Array Value)
    (hget : ∀ j, c2[j]? = if (n - 1) * 3 ≤ j ∧ j < (n - 1) * 3 + z.length then z[j - (n - 1) * 3]? else if i * 3 ≤ j ∧ j < i * 3 + (xs.drop ((i + 1) * 3)).length then (xs.drop ((i + 1) * 3))[j - i * 3]? else cur[j]?) :
    c2.toList.take ((n - 1) * 3) = xs.take (i * 3) ++ xs.drop ((i + 1) * 3) := by
  have hxl : xs.length = n * 3 := by rw [← hx, List.length_take]; omega
  apply List.ext_getElem?
  intro j
  rw [List.getElem?_take]
  by_cases h1 : j < (n - 1) * 3
  · rw [if_pos h1, Array.getElem?_toList, hget, if_neg (by omega)]
    rw [List.length_drop, hxl]
    by_cases h2 : j < i * 3
    · rw [if_neg (by omega), List.getElem?_append_left (by rw [List.length_take]; omega), List.getElem?_take, if_pos h2, ← hx, List.getElem?_take, if_pos (by omega)]
    · rw [if_pos (by omega), List.getElem?_append_right (by rw [List.length_take]; omega), List.length_take, hxl, show min (i * 3) (n * 3) = i * 3 by omega]
  · rw [if_neg h1, List.getElem?_eq_none (by rw [List.length_append, List.length_take, List.length_drop, hxl]; omega)]
theorem run_clear_oneN {P : Program} (w : World) (t e ty : TypeId) (z : Value) (ht : P.underlying t = some (.slice e)) (hv : ∀ w, (zeroValue e).run P w = .ok z w) (h1 : ∀ v ∈ z.cells.toList, v.oneCell' = true) (b o c : Nat) (hs : 0 < z.cells.size)
    (hc : ∀ j, j < z.cells.size → (w.cell? ⟨b, o + j, none⟩).isSome = true) (hf : ∀ j, j < z.cells.size → w.frozen? ⟨b, o + j, none⟩ = false) :
    (Builtin.clear_ #[t] ty #[.slice (some ⟨b, o, none⟩) 1 c]).run P w = .ok (.tuple #[]) (w.setCells b o z.cells.toList) := by
  have hzc : (Builtin.zeroCells z.cells 1).toList = z.cells.toList := by
    simp [Builtin.zeroCells]
    apply List.ext_getElem
    · simp
    · intro i h1 h2
      have : i < z.cells.size := by simpa using h2
      simp [Nat.mod_eq_of_lt this]
      rw [getElem!_pos z.cells i this]
  have hst := run_storeCells_cells (P := P) b o z.cells.toList 0 w (by simpa using hc) (by simpa using hf) h1
  simp only [Nat.add_zero] at hst
  simp [Builtin.clear_, run_underlying ht, hv, hzc, hst]

theorem cut_atN {P : Program} (t e : TypeId) (i : TypeInfo) (ht : P.underlying t = some (.slice e)) (hi : P.info? e = some i) (g n c k : Nat) (hk : k ≤ n) (hc : n ≤ c) :
    ∃ A1, (A1 = if c = k then (⟨g, 0, none⟩ : Addr) else ⟨g, k * i.size, none⟩) ∧ ∀ w, (Instr.slice t (.slice (some ⟨g, 0, none⟩) n c) (some (.int .i64 (k : Int))) none none).run P w = .ok (.slice (some A1) (n - k) (c - k)) w := by
  have he : P.elem t = e := by simp [Program.elem, ht]
  have hsz : ∀ w, (sizeOf (P.elem t)).run P w = .ok i.size w := fun w => by rw [he]; simp [sizeOf, typeInfo, hi]
  refine ⟨_, rfl, fun w => ?_⟩
  rw [run_slice_l (P := P) w t (some ⟨g, 0, none⟩) n c (by rw [ht, he]) .i64 (k : Int) (by omega) (by omega), hsz]
  simp only [Result.andThen_ok, sliced, Int.toNat_natCast]
  by_cases h : c = k
  · rw [if_pos h, if_pos h]
  · rw [if_neg h, if_neg h]
    simp [add_plain]
theorem cut_headN {P : Program} (t e : TypeId) (i : TypeInfo) (ht : P.underlying t = some (.slice e)) (hi : P.info? e = some i) (A : Option Addr) {n c k : Nat} (hk : k ≤ n) (hc : n ≤ c) (w : World) :
    (Instr.slice t (.slice A n c) none (some (.int .i64 (k : Int))) none).run P w = .ok (.slice A k c) w := by
  have he : P.elem t = e := by simp [Program.elem, ht]
  have hsz : ∀ w, (sizeOf (P.elem t)).run P w = .ok i.size w := fun w => by rw [he]; simp [sizeOf, typeInfo, hi]
  rw [run_slice_h (P := P) w t A n c (by rw [ht, he]) .i64 (k : Int) (by omega) (by omega), hsz]
  simp only [Result.andThen_ok, sliced, Int.toNat_natCast, Nat.sub_zero]
  simp
  intro _
  cases A <;> simp [Addr.add]
theorem cut_tailN {P : Program} (t e : TypeId) (i : TypeInfo) (ht : P.underlying t = some (.slice e)) (hi : P.info? e = some i) (g n c m : Nat) (hm : m < n) (hc : n ≤ c) (w : World) :
    (Instr.slice t (.slice (some ⟨g, 0, none⟩) m c) (some (.int .i64 (m : Int))) (some (.int .i64 (n : Int))) none).run P w = .ok (.slice (some ⟨g, m * i.size, none⟩) (n - m) (c - m)) w := by
  have he : P.elem t = e := by simp [Program.elem, ht]
  have hsz : ∀ w, (sizeOf (P.elem t)).run P w = .ok i.size w := fun w => by rw [he]; simp [sizeOf, typeInfo, hi]
  rw [run_slice_lh (P := P) w t (some ⟨g, 0, none⟩) m c (by rw [ht, he]) .i64 .i64 (m : Int) (n : Int) (by omega) (by omega) (by omega), hsz]
  simp only [Result.andThen_ok, sliced, Int.toNat_natCast]
  rw [if_neg (by omega)]
  simp [add_plain]
theorem cut_checkN {P : Program} (t e : TypeId) (i : TypeInfo) (ht : P.underlying t = some (.slice e)) (hi : P.info? e = some i) (A : Option Addr) (n c k : Nat) (hk : k + 1 ≤ n) (hc : n ≤ c) :
    ∃ v, ∀ w, (Instr.slice t (.slice A n c) (some (.int .i64 (k : Int))) (some (.int .i64 ((k + 1 : Nat) : Int))) (some (.int .i64 (n : Int)))).run P w = .ok v w := by
  have he : P.elem t = e := by simp [Program.elem, ht]
  have hsz : ∀ w, (sizeOf (P.elem t)).run P w = .ok i.size w := fun w => by rw [he]; simp [sizeOf, typeInfo, hi]
  refine ⟨sliced A (k : Int).toNat ((k + 1 : Nat) : Int).toNat (n : Int).toNat i.size, fun w => ?_⟩
  rw [run_slice_lhm (P := P) w t A n c (by rw [ht, he]) .i64 .i64 .i64 (k : Int) ((k + 1 : Nat) : Int) (n : Int) (by omega) (by omega) (by omega) (by omega), hsz]
  rfl
theorem zero_frN (w : World) : (zeroValue 32).run Try.prog w = .ok (.agg #[.int .i64 0, .int .i64 0, .slice none 0 0]) w := by
  obtain ⟨i0, hi, hz0, hz1, hz2⟩ := info_parts info_fr
  simp [zeroValue, typeInfo, hi, hz0]
set_option maxRecDepth 100000 in
set_option maxHeartbeats 1000000 in
theorem ntdel_any (base : Nat) (v : Value) (n : Nat) (xs : List Value) (k : Nat) (i j : Int) (hi : i = k) (hj : j = (k + 1 : Nat)) (w : World) (h : w.ownsRow base 32 3 v n xs) (hk : k < n) (h1 : ∀ u ∈ xs, u.oneCell' = true) :
    Calls Try.prog 25 #[v, .int .i64 i, .int .i64 j] w fun e w' => ∃ v', e = .returned v' ∧ w'.ownsRow base 32 3 v' (n - 1) (xs.take (k * 3) ++ xs.drop ((k + 1) * 3)) ∧ w.grownBy w' v.ownBlock ∧ v'.ownBlock = v.ownBlock := by
  subst hi hj
  rcases h.2 with ⟨rfl, h0⟩ | ⟨g, cap, cur, rfl, hb, hg, hc, hm, hs, hx⟩
  · omega
  have hxl : xs.length = n * 3 := h.1
  obtain ⟨i0, hi, hz0, hz1, hz2⟩ := info_parts info_fr
  have HB0 : Blk w g 32 cur := hg
  -- the cells that are moved
  obtain ⟨news, hnews⟩ : ∃ news, news = xs.drop ((k + 1) * 3) := ⟨_, rfl⟩
  have hnl : news.length = (n - (k + 1)) * 3 := by rw [hnews, List.length_drop, hxl]; omega
  obtain ⟨A1, hA1, hcut1⟩ := cut_atN (P := Try.prog) 37 32 i0 Try.underlying37 hi g n cap (k + 1) hk hc
  rw [hz1] at hA1
  have hcell : ∀ j u, xs[j]? = some u → w.cell? ⟨g, j, none⟩ = some u := fun j u hu => by
    have := h.cells (g := g) rfl j u hu
    rw [add_plain, Nat.zero_add] at this
    exact this
  have hsrc : Hid (∀ t u, news[t]? = some u → w.drew.cell? (A1.add t) = some u) := hid (fun t u hu => by
    have ht := (List.getElem?_eq_some_iff.1 hu).1
    rw [hA1, if_neg (by omega), add_plain]
    rw [hnews, List.getElem?_drop] at hu
    exact hcell _ _ hu)
  have hroom : Hid (∀ t, t < news.length → (w.drew.cell? ⟨g, 0 + k * 3 + t, none⟩).isSome = true ∧ w.drew.frozen? ⟨g, 0 + k * 3 + t, none⟩ = false) := hid (fun t ht => by
    refine ⟨?_, HB0.drew.frozen _⟩
    rw [HB0.drew.cell, Array.getElem?_eq_getElem (by omega)]
    rfl)
  have hone : Hid (∀ u ∈ news, u.oneCell' = true) := hid (fun u hu => h1 u (by rw [hnews] at hu; exact List.mem_of_mem_drop hu))
  obtain ⟨W1, hW1⟩ : ∃ W1, W1 = w.drew.setCells g (0 + k * 3) news := ⟨_, rfl⟩
  have HB1 : Blk W1 g 32 (setAllN cur (0 + k * 3) news) := by rw [hW1]; exact HB0.drew.setCells _ _
  have HG1 : w.grownBy W1 (some g) := by rw [hW1]; exact only_setCells _ _ (only_drew (World.grownBy.refl w _))
  have hcl : ∀ ty, (Builtin.clear_ #[37] ty #[.slice (some ⟨g, (n - 1) * i0.size, none⟩) 1 (cap - (n - 1))]).run Try.prog W1 = .ok (.tuple #[]) (W1.setCells g ((n - 1) * 3) [.int .i64 0, .int .i64 0, .slice none 0 0]) := fun ty => by
    rw [hz1]
    refine run_clear_oneN W1 _ _ ty _ Try.underlying37 zero_frN ?_ g ((n - 1) * 3) _ (by decide) (fun t ht => ?_) (fun t ht => HB1.frozen _)
    · intro u hu
      simp [Value.cells] at hu
      rcases hu with rfl | rfl | rfl <;> rfl
    · have : t < 3 := ht
      rw [HB1.cell, Array.getElem?_eq_getElem (by rw [setAllN_size]; omega)]
      rfl
  have hfin : Hid ((W1.setCells g ((n - 1) * 3) [.int .i64 0, .int .i64 0, .slice none 0 0]).ownsRow base 32 3 (.slice (some ⟨g, 0, none⟩) (n - 1) cap) (n - 1) (xs.take (k * 3) ++ xs.drop ((k + 1) * 3)) ∧ w.grownBy (W1.setCells g ((n - 1) * 3) [.int .i64 0, .int .i64 0, .slice none 0 0]) (some g)) := hid (by
    refine ⟨⟨by rw [List.length_append, List.length_take, List.length_drop, hxl]; omega, .inr ⟨g, cap, _, rfl, hb, HB1.setCells _ _, by omega, hm, by rw [setAllN_size, setAllN_size]; exact hs, ?_⟩⟩, only_setCells _ _ HG1⟩
    refine cut_list cur.toList n k cap xs [.int .i64 0, .int .i64 0, .slice none 0 0] hk hc (by simpa using hs) hx _ (fun j => ?_)
    rw [setAllN_get _ _ _ _ (by rw [setAllN_size]; simp; omega), setAllN_get _ _ _ _ (by omega), Nat.zero_add, ← hnews]
    simp)
  have hW : Hid (W1 = w.drew.setCells g (0 + k * 3) news) := hid hW1
  obtain ⟨vc, hcheck⟩ := cut_checkN (P := Try.prog) 37 32 i0 Try.underlying37 hi (some ⟨g, 0, none⟩) n cap k hk hc
  have hhead := fun w => cut_headN (P := Try.prog) 37 32 i0 Try.underlying37 hi (some ⟨g, 0, none⟩) (k := k) (Nat.le_of_lt hk) hc w
  have htail := fun w => cut_tailN (P := Try.prog) 37 32 i0 Try.underlying37 hi g n cap (n - 1) (by omega) hc w
  rw [show n - (n - 1) = 1 by omega] at htail
  have HI := hid (And.intro hi (And.intro hz0 (And.intro hz1 hz2)))
  have HNL := hid hnl
  have hneq : ¬ ((k : Int) = ((k + 1 : Nat) : Int)) := by omega
  have hsum : k + (n - (k + 1)) = n - 1 := by omega
  have hA2 : (if cap = k + 1 then (some ⟨g, 0, none⟩ : Option Addr) else some ⟨g, (k + 1) * 3, none⟩) = some A1 := by rw [hA1]; split <;> rfl
  have hb0 : 0 ≤ (k : Int) + 1 := by omega
  have hb1 : (k : Int) + 1 ≤ (n : Int) := by omega
  have hkc : k ≤ cap := by omega
  have hneC : ¬ (cap = n - 1) := by omega
  clear hcheck hhead hcut1
  clear hi hz0 hz1 hz2 hA1 HB0 HB1 HG1 hW1 hcell hxl h hg hx hs hb hm h1 hnews hnl
  go_enter Try.func25, Try.ntmps25
  go_wp2_with fail
  go_region_law (refine step_append_room rfl (.tmp 22) (.tmp 25) 37 rfl 32 i0 3 Try.underlying37 HI.out.1 HI.out.2.2.1 g 0 k cap (by simp [Act.eval, Act.put]) A1 (n - (k + 1)) (cap - (k + 1)) news (by simp [Act.eval, Act.put]) HNL.out hsrc.out hone.out (by omega) hroom.out ?_; rw [← hW.out, hsum])
  go_wp2
  go_ret
  exact ⟨_, rfl, hfin.out.1, hfin.out.2, rfl⟩
end Go.Proofs.Ytljnboimadhkoaa
