/-
  Contracts of path.Above and Overlap.
-/
import Derived.Test.YtohffiehmmcgbaaGreatDoorXB
import Derived.Test.YtohffiehmmcgbaaGreatDoorXA
import Derived.Laws.IdiomCopy
import Derived.Laws.AppendOwn
import Derived.OwnWalk
import Derived.Test.YtohffiehmmcgbaaGreatDoorXKRight
import Derived.Laws.Rows
import Derived.Laws.Tables
import Derived.Great.BuildSlice
namespace Go.Proofs.YtohffiehmmcgbaaGreatDoor
open Go.ChangeShapes Go.WideShapes Go.ChangeAt Go.RowKit
end Go.Proofs.YtohffiehmmcgbaaGreatDoor
namespace Go.Proofs.YtohffiehmmcgbaaGreatDoor
open Go.ChangeShapes Go.WideShapes Go.ChangeAt Go.RowKit
def Vals (w : World) (A : Option Addr) (vs : List Value) : Prop :=
  ∀ (j : Nat) (u : Value), vs[j]? = some u → ∃ b o, A = some ⟨b, o, none⟩ ∧ b < w.heap.size ∧ w.cell? ⟨b, o + j, none⟩ = some u
theorem Vals.below {w w' : World} {A : Option Addr} {vs : List Value} (h : Vals w A vs) (hb : Below w.heap.size w w') : Vals w' A vs := by
  intro j x hj
  obtain ⟨b, o, hA, hlt, hc⟩ := h j x hj
  exact ⟨b, o, hA, Nat.lt_of_lt_of_le hlt hb.size, (hb.cell (by exact hlt)).trans hc⟩
theorem Vals.drewN {w : World} {A : Option Addr} {vs : List Value} (h : Vals w A vs) (n : Nat) : Vals (w.drewN n) A vs := h
theorem Vals.drew {w : World} {A : Option Addr} {vs : List Value} (h : Vals w A vs) : Vals w.drew A vs := h
theorem Vals.alloc {w : World} {A : Option Addr} {vs : List Value} (h : Vals w A vs) (o : Obj) : Vals (w.alloc o) A vs := h.below ((Below.refl _ _).alloc (Nat.le_refl _) o)
theorem Vals.nil (w : World) (A : Option Addr) : Vals w A [] := fun j x h => by simp at h
theorem Vals.take {w : World} {A : Option Addr} {vs : List Value} (h : Vals w A vs) (i : Nat) : Vals w A (vs.take i) := by
  intro j x hj
  refine h j x ?_
  rw [List.getElem?_take] at hj
  split at hj
  · exact hj
  · cases hj
theorem Vals.rest {w : World} {vs : List Value} {b o i : Nat} (h : Vals w (some ⟨b, o, none⟩) vs) : Vals w (some ⟨b, o + i, none⟩) (vs.drop i) := by
  intro j x hj
  rw [List.getElem?_drop] at hj
  obtain ⟨b', o', hA', hlt, hc⟩ := h _ x hj
  injection hA' with h1
  injection h1 with h2 h3
  subst h2; subst h3
  exact ⟨b, o + i, rfl, hlt, by rw [Nat.add_assoc]; exact hc⟩
theorem Vals.of_own {w : World} {base n cap : Nat} {A : Option Addr} {vs : List Value} {E : TypeId} (h : w.ownsRow base E 1 (.slice A n cap) n vs) : Vals w A vs := by
  intro j x hj
  have hl : vs.length = n := by have := h.1; simpa using this
  have hjn : j < vs.length := (List.getElem?_eq_some_iff.1 hj).1
  rcases h.2 with ⟨_, h0⟩ | ⟨g, cap', cur, hv, _, hg, _⟩
  · omega
  · injection hv with h1 h2 h3
    subst h1; subst h3
    refine ⟨g, 0, rfl, (Array.getElem?_eq_some_iff.1 hg).1, ?_⟩
    rw [Nat.zero_add, h.cellAt j (by omega)]
    exact hj
theorem own_vals {w : World} {base n : Nat} {e : TypeId} {v : Value} {vs : List Value} (h : w.ownsRow base e 1 v n vs) :
    ∃ A c, v = .slice A n c ∧ vs.length = n ∧ (A = none → c = 0) ∧ n ≤ c ∧ c ≤ maxLen ∧ Vals w A vs := by
  have hn : vs.length = n := by have := h.1; simpa using this
  rcases h.2 with ⟨rfl, h0⟩ | ⟨g, cap, cur, rfl, _, _, hc, hm, _⟩
  · subst h0
    have : vs = [] := List.eq_nil_of_length_eq_zero hn
    subst this
    exact ⟨none, 0, rfl, rfl, fun _ => rfl, Nat.le_refl _, by simp [maxLen], Vals.nil _ _⟩
  · exact ⟨_, cap, rfl, hn, fun h => (by cases h), hc, hm, Vals.of_own h⟩
theorem Vals.at_ {w : World} {A : Option Addr} {vs : List Value} (h : Vals w A vs) {j : Nat} (hj : j < vs.length) : ∃ b o, A = some ⟨b, o, none⟩ ∧ b < w.heap.size ∧ w.cell? ⟨b, o + j, none⟩ = some vs[j] :=
  h j _ (List.getElem?_eq_getElem hj)
theorem wpList_append_vals {P : Program} {w : World} {ops : Array Oper} {rest : List Oper} {o : Oper} {a : Act} {Q : Exit → Act → World → Prop} (hgd : o.guard = none) (s x : Operand) (t : TypeId)
    (ho : o.op = .call { callee := .builtin .append, args := #[s, x], argTypes := #[t, t] })
    (base : Nat) (e : TypeId) (i : TypeInfo) (z : Value) (bytes : Nat) (ht : P.underlying t = some (.slice e)) (hi : P.info? e = some i) (hz : i.zero = some z) (hsize : i.size = 1) (hby : i.bytes = bytes) (hzs : z.cells.size = 1)
    (v : Value) (n : Nat) (xs : List Value) (hs : a.eval s = v) (hown : w.ownsRow base e 1 v n xs) (A : Option Addr) (c : Nat) (vs : List Value) (m : Nat) (hm : vs.length = m) (hx : a.eval x = .slice A m c) (hnone : A = none → c = 0) (hS : Vals w A vs) (hone : ∀ u ∈ vs, u.oneCell' = true)
    (h63 : n + m ≤ maxLen) (hbytes : (n + m) * bytes ≤ 140737488355328) (hbase : base ≤ w.heap.size)
    (h : ∀ v' w', w'.ownsRow base e 1 v' (n + m) (xs ++ vs) → w.grownBy w' v.ownBlock → wpList P ops Q rest (a.put o.dst v') w') : wpList P ops Q (o :: rest) a w := by
  subst hm
  cases A with
  | none =>
    have hl : vs = [] := by
      cases vs with
      | nil => rfl
      | cons y l => obtain ⟨b, o, he, _⟩ := hS 0 y rfl; cases he
    subst hl
    rw [hnone rfl] at hx
    exact wpList_append_own_none hgd s x t ho base e i 1 ht hi v n xs hs hown hx (h v w (by simpa using hown) (World.grownBy.refl w _))
  | some ad =>
    refine wpList_append_own w hgd s x t ho base e i z 1 bytes ht hi hz hsize hby hzs (by decide) v n xs hs hown ad vs.length c vs hx (by simp) ?_ hone h63 hbytes hbase (fun v' w' h1 h2 _ => h v' w' h1 h2)
    intro j u hu
    obtain ⟨b, off, he, _, hc⟩ := hS j u hu
    injection he with he
    subst he
    rw [add_plain, hc]
theorem vals_front {P : Program} (t e : TypeId) (i : TypeInfo) (ht : P.underlying t = some (.slice e)) (hi : P.info? e = some i) {w0 : World} {A : Option Addr} {vs : List Value} {n c k : Nat} (hk : k ≤ n) (hc : n ≤ c) (h : Vals w0 A vs) (hA : A = none → c = 0) :
    ∃ A1, (∀ w, (Instr.slice t (.slice A n c) none (some (.int .i64 (k : Int))) none).run P w = .ok (.slice A1 k c) w) ∧ (A1 = none → c = 0) ∧ Vals w0 A1 (vs.take k) := by
  have he : P.elem t = e := by simp [Program.elem, ht]
  have hsz : ∀ w, (sizeOf (P.elem t)).run P w = .ok i.size w := fun w => by rw [he]; simp [sizeOf, typeInfo, hi]
  refine ⟨if c = 0 then A else A.map (·.add (0 * i.size)), fun w => ?_, fun hn' => ?_, ?_⟩
  · rw [run_slice_h (P := P) w t A n c (by rw [ht, he]) .i64 (k : Int) (by omega) (by omega), hsz]
    simp [Result.andThen, sliced]
  · by_cases h0 : c = 0
    · exact h0
    · rw [if_neg h0] at hn'
      cases A with
      | none => exact hA rfl
      | some a => cases hn'
  · have e : (if c = 0 then A else A.map (·.add (0 * i.size))) = A := by
      split
      · rfl
      · rw [Nat.zero_mul]; cases A <;> simp [Addr.add]
    rw [e]
    exact h.take k
def strs (xs : List ByteArray) : List Value := xs.map Value.string
theorem strs_length (xs : List ByteArray) : (strs xs).length = xs.length := by simp [strs]
theorem strs_one (xs : List ByteArray) : ∀ u ∈ strs xs, u.oneCell' = true := by
  intro u hu
  obtain ⟨x, _, rfl⟩ := List.mem_map.1 hu
  rfl
theorem strs_at {w : World} {A : Option Addr} {xs : List ByteArray} (h : Vals w A (strs xs)) {j : Nat} (hj : j < xs.length) : ∃ b o, A = some ⟨b, o, none⟩ ∧ b < w.heap.size ∧ w.cell? ⟨b, o + j, none⟩ = some (.string xs[j]) := by
  have := h j (.string xs[j]) (by simp [strs, hj])
  exact this
theorem strs_take (xs : List ByteArray) (k : Nat) : (strs xs).take k = strs (xs.take k) := by simp [strs, List.map_take]
theorem strs_append (xs ys : List ByteArray) : strs xs ++ strs ys = strs (xs ++ ys) := by simp [strs]
def Holds (w : World) (v : Value) (xs : List ByteArray) : Prop := ∃ A c, v = .slice A xs.length c ∧ (A = none → c = 0) ∧ xs.length ≤ c ∧ c ≤ maxLen ∧ Vals w A (strs xs)
theorem Holds.below {w w' : World} {v : Value} {xs : List ByteArray} (h : Holds w v xs) (hb : Below w.heap.size w w') : Holds w' v xs := by
  obtain ⟨A, c, h1, h2, h3, h4, h5⟩ := h
  exact ⟨A, c, h1, h2, h3, h4, h5.below hb⟩
theorem Holds.nil (w : World) : Holds w (.slice none 0 0) [] := ⟨none, 0, rfl, fun _ => rfl, Nat.le_refl _, by simp [maxLen], Vals.nil _ _⟩
theorem holds_own {w : World} {base n : Nat} {e : TypeId} {v : Value} {xs : List ByteArray} (h : w.ownsRow base e 1 v n (strs xs)) : Holds w v xs := by
  obtain ⟨A, c, h1, h2, h3, h4, h5, h6⟩ := own_vals h
  rw [strs_length] at h2
  subst h2
  exact ⟨A, c, h1, h3, h4, h5, h6⟩
end Go.Proofs.YtohffiehmmcgbaaGreatDoor
namespace Go.Proofs.YtohffiehmmcgbaaGreatDoor
open Go.ChangeShapes Go.WideShapes Go.ChangeAt Go.RowKit
theorem info_str : (Tryz.prog.info? 9).map (fun i => (i.zero, i.size, i.bytes)) = some (some (.string ⟨#[]⟩), 1, 16) := by kernel_rfl
theorem one_str {w : World} {x : Value} (E : TypeId) : Vals (w.alloc (.cells #[x] E)) (some ⟨w.heap.size, 0, none⟩) [x] := by
  intro j u hj
  match j, hj with
  | 0, hj =>
    simp at hj; subst hj
    exact ⟨_, _, rfl, by simp, by simp⟩
def Takes1 (xs : List ByteArray) (p : ByteArray) (w : World) (e : Ending) (w' : World) : Prop :=
  Below w.heap.size w w' ∧ ((take1 (xs.map L) (L p) = none ∧ e = .returned (.tuple #[.slice none 0 0, .int .i64 30])) ∨
    ∃ v ys, e = .returned (.tuple #[v, .int .i64 0]) ∧ Holds w' v ys ∧ take1 (xs.map L) (L p) = some (ys.map L) ∧ ys.length ≤ xs.length + 1)
theorem not_empty {p : ByteArray} {l : List UInt8} (h : L p = l) (hl : l ≠ []) : (p.toList.isEmpty = false) ∧ ¬ p.toList = [] := by
  rw [toList_L, h]
  exact ⟨by cases l <;> simp_all, hl⟩
theorem spell {p : ByteArray} {c : List UInt8} (h : L p ≠ c) : (p.toList == c) = false ∧ ¬ p.toList = c := by
  rw [toList_L]
  exact ⟨by simpa using h, h⟩
theorem spell_is {p : ByteArray} {c : List UInt8} (h : L p = c) : (p.toList == c) = true ∧ p.toList = c := by
  rw [toList_L]
  exact ⟨by simpa using h, h⟩
set_option maxRecDepth 100000 in
set_option maxHeartbeats 400000 in
theorem take_none (v : Value) (xs : List ByteArray) (p : ByteArray) (w : World) (hx : Holds w v xs) (h : L p = [] ∨ L p = [46]) : Calls Tryz.prog 195 #[v, .string p] w (Takes1 xs p w) := by
  obtain ⟨A, c, rfl, hA, hc, hm, hv⟩ := hx
  have HT := hid (take1_none (l := xs.map L) h)
  have HV := hid hv
  have HA := hid hA
  clear hA hv
  rcases h with h | h
  · have e1 : p.toList = [] := by rw [toList_L]; exact h
    have e2 : p.toList.isEmpty = true := by rw [e1]; rfl
    clear h
    go_enter Tryz.func195, Tryz.ntmps195
    go_wp2
    go_ret2
    exact ⟨Below.refl _ _, .inr ⟨_, xs, rfl, ⟨A, c, rfl, HA.out, hc, hm, HV.out⟩, HT.out, by omega⟩⟩
  · obtain ⟨e1, e2⟩ := not_empty h (by simp)
    obtain ⟨e3, e4⟩ := spell_is h
    clear h
    go_enter Tryz.func195, Tryz.ntmps195
    go_wp2
    go_ret2
    exact ⟨Below.refl _ _, .inr ⟨_, xs, rfl, ⟨A, c, rfl, HA.out, hc, hm, HV.out⟩, HT.out, by omega⟩⟩
set_option maxRecDepth 100000 in
set_option maxHeartbeats 400000 in
theorem take_up (v : Value) (xs : List ByteArray) (p : ByteArray) (w : World) (hx : Holds w v xs) (h : L p = [46, 46]) : Calls Tryz.prog 195 #[v, .string p] w (Takes1 xs p w) := by
  obtain ⟨A, c, rfl, hA, hc, hm, hv⟩ := hx
  obtain ⟨i0, hi, hz0, hz1, hz2⟩ := info_parts info_str
  obtain ⟨e1, e2⟩ := not_empty h (by simp)
  obtain ⟨e3, e4⟩ := spell_is h
  have e5 : (p.toList == [46]) = false := by rw [e4]; decide
  have HT := hid (take1_up (l := xs.map L))
  have HP := hid h
  clear h e4
  by_cases h0 : xs = []
  · subst h0
    clear hA hv hc hm hi hz0 hz1 hz2
    go_enter Tryz.func195, Tryz.ntmps195
    go_wp2
    go_ret2
    exact ⟨Below.refl _ _, .inl ⟨by rw [HP.out, HT.out]; rfl, rfl⟩⟩
  · have hpos : 0 < xs.length := List.length_pos_iff.2 h0
    obtain ⟨n, hn⟩ : ∃ n, xs.length = n + 1 := ⟨xs.length - 1, by omega⟩
    obtain ⟨A1, r1, g1, s1⟩ := vals_front (P := Tryz.prog) 100 9 i0 Tryz.underlying100 hi (k := n) (n := xs.length) (by omega) hc hv hA
    rw [strs_take] at s1
    rw [hn] at r1 hc
    have HN := hid hn
    have HG := hid g1
    have HS := hid s1
    rw [hn]
    unfold maxLen at hm
    have hlt : n + 1 ≤ 9223372036854775807 := by omega
    have hp2 : 0 < n + 1 := by omega
    clear hA hv hi hz0 hz1 hz2 hn g1 s1 hpos
    go_enter Tryz.func195, Tryz.ntmps195
    go_wp2
    go_ret2
    have hl : (xs.take n).length = n := by rw [List.length_take, HN.out]; omega
    refine ⟨Below.refl _ _, .inr ⟨.slice A1 n c, xs.take n, rfl, ⟨A1, c, by rw [hl], HG.out, by rw [hl]; omega, by unfold maxLen; omega, HS.out⟩, ?_, by rw [hl, HN.out]; omega⟩⟩
    rw [HP.out, HT.out, if_neg (by simpa using h0), List.dropLast_eq_take, List.length_map, HN.out, List.map_take]
    simp
theorem isPart_bad {p : ByteArray} {k : Nat} (h : k < p.size) (hl : letterI ((p[k]'h).toNat : Int) = false) : isPart (L p) = false :=
  isPart_fail h (by rw [← letterI_u8]; exact hl)
theorem isPart_good {p : ByteArray} (h0 : L p ≠ []) (h : ∀ (j : Nat) (hj : j < p.size), letterI ((p[j]'hj).toNat : Int) = true) : isPart (L p) = true := by
  rw [isPart_all (fun j hj => by rw [← letterI_u8]; exact h j hj)]
  cases h : L p <;> simp_all
set_option maxRecDepth 100000 in
set_option maxHeartbeats 1000000 in
theorem take_part (v : Value) (xs : List ByteArray) (p : ByteArray) (w : World) (hx : Holds w v xs) (h1 : ¬ (L p = [] ∨ L p = [46])) (h2 : L p ≠ [46, 46]) (hp : p.size ≤ 9223372036854775807) (hlen : xs.length ≤ 100000) :
    Calls Tryz.prog 195 #[v, .string p] w (Takes1 xs p w) := by
  obtain ⟨A, c, rfl, hA, hc, hm, hv⟩ := hx
  obtain ⟨i0, hi, hz0, hz1, hz2⟩ := info_parts info_str
  have h0 : L p ≠ [] := fun h => h1 (.inl h)
  obtain ⟨e1, e2⟩ := not_empty (p := p) rfl h0
  obtain ⟨e3, e4⟩ := spell (c := [46]) (p := p) (fun h => h1 (.inr h))
  obtain ⟨e5, e6⟩ := spell h2
  have HV := hid hv
  have HA := hid hA
  have H1 := hid h1
  have H2 := hid h2
  have H0 := hid h0
  clear h1 h2 h0 hv hA
  go_enter Tryz.func195, Tryz.ntmps195
  go_wp2
  go_loop [6] (fun i => ∃ k : Nat, k ≤ p.size ∧ i = .int .i64 k ∧ Hid (∀ (j : Nat) (hj : j < p.size), j < k → letterI ((p[j]'hj).toNat : Int) = true)) (fun i => p.size - (intOf i).toNat)
  case atStart => exact ⟨0, Nat.zero_le _, rfl, hid (fun j _ h => absurd h (Nat.not_lt_zero _))⟩
  case round =>
    obtain ⟨k, hk, rfl, H⟩ := hrel
    by_cases hlt : k < p.size
    · cases hl : letterI ((p[k]'hlt).toNat : Int) with
      | true =>
        have HL := hid hl
        clear hl
        go_wp2_with (go_at_call 213; refine (letter_any _ _).mono ?_; rintro e w' ⟨rfl, rfl⟩; rw [HL.out])
        go_round
        case rel =>
          refine ⟨k + 1, by omega, by go_num, hid (fun j hj hjk => ?_)⟩
          by_cases hjp : j = k
          · subst hjp; exact HL.out
          · exact H.out j hj (by omega)
        case measure => simp [intOf]; omega
      | false =>
        have HL := hid hl
        clear hl
        go_wp2_with (go_at_call 213; refine (letter_any _ _).mono ?_; rintro e w' ⟨rfl, rfl⟩; rw [HL.out])
        go_ret2
        exact ⟨Below.refl _ _, .inl ⟨take1_bad H1.out H2.out (isPart_bad hlt HL.out), rfl⟩⟩
    · have HG := hid (isPart_good H0.out (fun j hj => H.out j hj (by omega)))
      go_wp2_with (first
        | (at_builtin; refine wpList_append_vals rfl (.tmp 36) (.tmp 37) 100 rfl w.heap.size 9 i0 _ 16 Tryz.underlying100 hi hz0 hz1 hz2 rfl _ 0 [] rfl (World.ownsRow_nil _ _ _ _) A c (strs xs) xs.length (strs_length xs) rfl HA.out HV.out (strs_one xs) (by unfold maxLen; omega) (by omega) (Nat.le_refl _) ?_; intro v1 w1 hown1 hg1; simp only [Nat.zero_add, List.nil_append] at hown1; have hb1 : Below w.heap.size w w1 := (Below.refl _ _).grown hg1 (Nat.le_refl _) (fun k hk => nomatch hk); have z1 := hb1.size; have HB1 := hid hb1; clear hb1 hg1)
        | (at_builtin; refine wpList_append_vals rfl (.tmp 39) (.tmp 41) 100 rfl w.heap.size 9 i0 _ 16 Tryz.underlying100 hi hz0 hz1 hz2 rfl _ xs.length (strs xs) rfl (hown1.alloc _) _ 1 [.string p] 1 rfl rfl (fun h => nomatch h) (one_str _) (by intro u hu; simp at hu; subst hu; rfl) (by unfold maxLen; omega) (by omega) (by simp; omega) ?_; intro v2 w2 hown2 hg2; have hb2 : Below w.heap.size w w2 := (HB1.out.alloc z1 _).grown hg2 (by simp; omega) (fun k hk => (hown1.lt k hk).1); have HB2 := hid hb2; have HO := hid hown2; clear hb2 hg2 hown2 hown1))
      go_ret2
      have ho : w2.ownsRow w.heap.size 9 1 v2 (xs.length + 1) (strs (xs ++ [p])) := by
        have := HO.out
        rwa [show ([Value.string p] : List Value) = strs [p] from rfl, strs_append] at this
      exact ⟨HB2.out, .inr ⟨v2, xs ++ [p], rfl, holds_own ho, by rw [take1_part HG.out]; simp, by simp⟩⟩
theorem take_any (v : Value) (xs : List ByteArray) (p : ByteArray) (w : World) (hx : Holds w v xs) (hp : p.size ≤ 9223372036854775807) (hlen : xs.length ≤ 100000) :
    Calls Tryz.prog 195 #[v, .string p] w (Takes1 xs p w) := by
  by_cases h1 : L p = [] ∨ L p = [46]
  · exact take_none v xs p w hx h1
  · by_cases h2 : L p = [46, 46]
    · exact take_up v xs p w hx h2
    · exact take_part v xs p w hx h1 h2 hp hlen
end Go.Proofs.YtohffiehmmcgbaaGreatDoor
namespace Go.Proofs.YtohffiehmmcgbaaGreatDoor
open Go.ChangeShapes Go.WideShapes Go.ChangeAt Go.RowKit
theorem L_one (s : ByteArray) (k : Nat) (h : k < s.size) : L (s.extract k (k + 1)) = [s[k]'h] := by
  have hl : k < (L s).length := by rw [L_length]; exact h
  rw [L_extract, List.drop_eq_getElem_cons hl]
  simp [L_get s k h]
theorem drop_byte (s : ByteArray) (k : Nat) (h : k < s.size) : (L s).drop k = s[k]'h :: (L s).drop (k + 1) := by
  have hl : k < (L s).length := by rw [L_length]; exact h
  rw [List.drop_eq_getElem_cons hl, L_get s k h]
theorem step_keep {s p : ByteArray} {k : Nat} (hc : clean (L p)) (h : k < s.size) (h47 : s[k]'h ≠ 47) :
    clean (L (p ++ s.extract k (k + 1))) ∧ L (p ++ s.extract k (k + 1)) ++ (L s).drop (k + 1) = L p ++ (L s).drop k := by
  rw [L_append, L_one s k h, drop_byte s k h]
  refine ⟨?_, by simp⟩
  intro c hx
  rcases List.mem_append.1 hx with hx | hx
  · exact hc c hx
  · simp at hx; subst hx; exact h47
theorem step_cut {s p : ByteArray} {k : Nat} (hc : clean (L p)) (h : k < s.size) (h47 : s[k]'h = 47) : pieces (L p ++ (L s).drop k) = L p :: pieces ((L s).drop (k + 1)) := by
  rw [drop_byte s k h, h47, pieces_mid, pieces_one hc]; rfl
theorem step_end {s p : ByteArray} {k : Nat} (hc : clean (L p)) (h : ¬ k < s.size) : pieces (L p ++ (L s).drop k) = [L p] := by
  rw [List.drop_of_length_le (by rw [L_length]; omega), List.append_nil, pieces_one hc]
def PartsOf (s : ByteArray) (w : World) (e : Ending) (w' : World) : Prop :=
  Below w.heap.size w w' ∧ ((takes [] (pieces (L s)) = none ∧ e = .returned (.tuple #[.slice none 0 0, .int .i64 30])) ∨
    ∃ v ys, e = .returned (.tuple #[v, .int .i64 0]) ∧ Holds w' v ys ∧ takes [] (pieces (L s)) = some (ys.map L) ∧ ys.length ≤ s.size + 1)
def Under (s : ByteArray) (xs : List ByteArray) (p : ByteArray) (k : Nat) : Prop :=
  (k ≤ s.size ∧ clean (L p) ∧ takes (xs.map L) (pieces (L p ++ (L s).drop k)) = takes [] (pieces (L s)) ∧ xs.length ≤ k ∧ p.size ≤ k) ∨ (k = s.size + 1 ∧ takes [] (pieces (L s)) = some (xs.map L) ∧ xs.length ≤ k ∧ p.size ≤ k)
theorem under_start (s : ByteArray) : Under s [] ⟨#[]⟩ 0 := .inl ⟨Nat.zero_le _, (fun _ hc => nomatch hc), rfl, Nat.le_refl _, Nat.le_refl _⟩
theorem under_keep {s p : ByteArray} {xs : List ByteArray} {k : Nat} (h : Under s xs p k) (hk : k < s.size) (h47 : s[k]'hk ≠ 47) : Under s xs (p ++ s.extract k (k + 1)) (k + 1) := by
  rcases h with ⟨_, hc, ht, hl, hp⟩ | ⟨h, _⟩
  · obtain ⟨h1, h2⟩ := step_keep hc hk h47
    refine .inl ⟨by omega, h1, by rw [h2]; exact ht, by omega, ?_⟩
    rw [ByteArray.size_append, ByteArray.size_extract]
    omega
  · omega
theorem under_take {s p : ByteArray} {xs ys : List ByteArray} {k : Nat} (h : Under s xs p k) (hle : k ≤ s.size) (hk : (hk : k < s.size) → s[k]'hk = 47) (hl1 : ys.length ≤ xs.length + 1) (ht : take1 (xs.map L) (L p) = some (ys.map L)) : Under s ys ⟨#[]⟩ (k + 1) := by
  rcases h with ⟨_, hc, h, hl, hp⟩ | ⟨h, _⟩
  · by_cases hlt : k < s.size
    · rw [step_cut hc hlt (hk hlt)] at h
      simp only [takes] at h
      rw [ht] at h
      exact .inl ⟨by omega, (fun _ hc => nomatch hc), h, by omega, Nat.zero_le _⟩
    · rw [step_end hc hlt] at h
      simp only [takes] at h
      rw [ht] at h
      exact .inr ⟨by omega, h.symm, by omega, Nat.zero_le _⟩
  · omega
theorem under_fail {s p : ByteArray} {xs : List ByteArray} {k : Nat} (h : Under s xs p k) (hle : k ≤ s.size) (hk : (hk : k < s.size) → s[k]'hk = 47) (ht : take1 (xs.map L) (L p) = none) : takes [] (pieces (L s)) = none := by
  rcases h with ⟨_, hc, h, hl⟩ | ⟨h, _⟩
  · by_cases hlt : k < s.size
    · rw [step_cut hc hlt (hk hlt)] at h
      simp only [takes] at h
      rw [ht] at h
      exact h.symm
    · rw [step_end hc hlt] at h
      simp only [takes] at h
      rw [ht] at h
      exact h.symm
  · omega
theorem under_end {s p : ByteArray} {xs : List ByteArray} {k : Nat} (h : Under s xs p k) (hk : ¬ k ≤ s.size) : takes [] (pieces (L s)) = some (xs.map L) ∧ xs.length ≤ s.size + 1 := by
  rcases h with ⟨h, _⟩ | ⟨h1, h2, h3, _⟩
  · omega
  · exact ⟨h2, by omega⟩
theorem under_len {s p : ByteArray} {xs : List ByteArray} {k : Nat} (h : Under s xs p k) : xs.length ≤ k ∧ k ≤ s.size + 1 ∧ p.size ≤ k := by
  rcases h with ⟨h1, _, _, h2, h3⟩ | ⟨h1, _, h2, h3⟩
  · exact ⟨h2, by omega, h3⟩
  · exact ⟨h2, by omega, h3⟩
set_option maxRecDepth 100000 in
set_option maxHeartbeats 2000000 in
theorem refparts_any (s : ByteArray) (w : World) (hs : s.size ≤ 90000) : Calls Tryz.prog 172 #[.string s] w (PartsOf s w) := by
  go_enter Tryz.func172, Tryz.ntmps172
  go_wp2
  go_loopw [4, 5, 6, 7] (fun v p _ i wr => ∃ (xs : List ByteArray) (q : ByteArray) (k : Nat), i = .int .i64 k ∧ p = .string q ∧ Hid (Holds wr v xs) ∧ Hid (Under s xs q k) ∧ Hid (Below w.heap.size w wr)) (fun _ _ _ i _ => s.size + 1 - (intOf i).toNat)
  case atStart => exact ⟨[], ⟨#[]⟩, 0, rfl, rfl, hid (Holds.nil _), hid (under_start s), hid (Below.refl _ _)⟩
  case round =>
    obtain ⟨xs, q, k, rfl, rfl, HH, HU, HB⟩ := hrel
    obtain ⟨hl1, hl2, hl3⟩ := under_len HU.out
    by_cases hle : k ≤ s.size
    · by_cases h47 : ∃ hk : k < s.size, s[k]'hk ≠ 47
      · obtain ⟨hk, h47⟩ := h47
        have hb1 : ((((s[k]'hk).toNat : Int)) != 47) = true := by
          rw [bne_iff_ne]
          intro h
          exact h47 (UInt8.toNat_inj.1 (by simpa using (show (s[k]'hk).toNat = 47 by omega)))
        have HK := hid (under_keep HU.out hk h47)
        clear h47
        go_wp2
        go_roundw
        case rel => exact ⟨xs, _, k + 1, by go_num, rfl, HH, HK, HB⟩
        case measure => simp [intOf]; omega
      · have h47' : (hk : k < s.size) → s[k]'hk = 47 := fun hk => Decidable.byContradiction fun h => h47 ⟨hk, h⟩
        have HF := hid (fun ht => under_fail HU.out hle h47' ht)
        have HT := hid (fun ys (h1 : ys.length ≤ xs.length + 1) ht => under_take (ys := ys) HU.out hle h47' h1 ht)
        clear h47
        by_cases hk : k < s.size
        all_goals
          first
            | have hb1 : ((((s[k]'hk).toNat : Int)) != 47) = false := by rw [h47' hk]; rfl
            | skip
          clear h47'
          go_wp2_with fail
          refine (take_any _ xs q _ HH.out (by omega) (by omega)).mono ?_
          rintro e w1 ⟨hb, ⟨ht, rfl⟩ | ⟨v1, ys, rfl, hh, ht, hl⟩⟩
          · have H1 := hid (HB.out.trans (hb.mono HB.out.size))
            have H2 := hid (HF.out ht)
            clear hb ht HF HT
            go_wp2
            go_ret2
            exact ⟨H1.out, .inl ⟨H2.out, rfl⟩⟩
          · have H1 := hid (HB.out.trans (hb.mono HB.out.size))
            have H2 := hid (HT.out ys hl ht)
            have H3 := hid hh
            clear hb ht HF HT hl hh
            go_wp2
            go_roundw
            case rel => exact ⟨ys, _, k + 1, by go_num, rfl, H3, H2, H1⟩
            case measure => simp [intOf]; omega
    · have H := hid (under_end HU.out hle)
      go_wp2
      go_ret2
      exact ⟨HB.out, .inr ⟨_, xs, rfl, HH.out, H.out.1, H.out.2⟩⟩
end Go.Proofs.YtohffiehmmcgbaaGreatDoor
namespace Go.Proofs.YtohffiehmmcgbaaGreatDoor
open Go.ChangeShapes Go.WideShapes Go.ChangeAt Go.RowKit
def joinK (l : List (List UInt8)) (k : Nat) : List UInt8 := join (l.take k)
theorem joinK_succ {l : List (List UInt8)} {k : Nat} (h : k < l.length) : joinK l (k + 1) = (if 0 < k then joinK l k ++ [47] else []) ++ l[k] := by
  unfold joinK
  rw [List.take_succ_eq_append_getElem h]
  by_cases h0 : 0 < k
  · rw [if_pos h0, join_append (by intro h1; have := congrArg List.length h1; rw [List.length_take, List.length_nil] at this; omega) (by simp), join_one]; simp
  · obtain rfl : k = 0 := by omega
    simp [join]
theorem joinK_all (l : List (List UInt8)) : joinK l l.length = join l := by unfold joinK; rw [List.take_length]
theorem joinK_le (l : List (List UInt8)) (m : Nat) (hm : ∀ x ∈ l, x.length ≤ m) : ∀ k, k ≤ l.length → (joinK l k).length ≤ k * (m + 1) := by
  intro k
  induction k with
  | zero => intro _; simp [joinK, join]
  | succ k ih =>
    intro hk
    rw [joinK_succ (by omega)]
    have h1 := ih (by omega)
    have h2 := hm _ (List.getElem_mem (show k < l.length by omega))
    have h3 : (k + 1) * (m + 1) = k * (m + 1) + (m + 1) := Nat.succ_mul _ _
    split <;> simp <;> omega
def TellsL (l : List UInt8) (w : World) (e : Ending) (w' : World) : Prop := ∃ r : ByteArray, e = .returned (.string r) ∧ L r = l ∧ Below w.heap.size w w'
theorem L_snoc (s : ByteArray) (c : UInt8) : L (s ++ ⟨#[c]⟩) = L s ++ [c] := by rw [L_append]; rfl
set_option maxRecDepth 100000 in
set_option maxHeartbeats 1000000 in
theorem refjoin_any (v : Value) (xs : List ByteArray) (w : World) (hx : Holds w v xs) (hn : xs.length ≤ 1000) (hz : ∀ x ∈ xs, x.size ≤ 1000) : Calls Tryz.prog 173 #[v] w (TellsL (join (xs.map L)) w) := by
  obtain ⟨A, c, rfl, hA, hc, hm, hv⟩ := hx
  have HV := hid hv
  have HZ := hid hz
  have HJ := hid (joinK_le (xs.map L) 1000 (by intro x hx; obtain ⟨y, hy, rfl⟩ := List.mem_map.1 hx; rw [L_length]; exact hz y hy))
  clear hv hA hz
  go_enter Tryz.func173, Tryz.ntmps173
  go_wp2
  go_loop [3, 4] (fun s i => ∃ (r : ByteArray) (k : Nat), k ≤ xs.length ∧ i = .int .i64 k ∧ s = .string r ∧ Hid (L r = joinK (xs.map L) k)) (fun _ i => xs.length - (intOf i).toNat)
  case atStart => exact ⟨_, 0, Nat.zero_le _, rfl, rfl, hid rfl⟩
  case round =>
    obtain ⟨r, k, hk, rfl, rfl, H⟩ := hrel
    by_cases hlt : k < xs.length
    · obtain ⟨b, o, rfl, hb, hcell⟩ := strs_at HV.out hlt
      have HS := hid (joinK_succ (l := xs.map L) (k := k) (by simpa using hlt))
      have h2 : (k : Int) < xs.length := by omega
      have hz1 : xs[k].size ≤ 1000 := HZ.out _ (List.getElem_mem hlt)
      have hz2 : r.size ≤ 1001000 := by
        have h := HJ.out k (by simp; omega)
        rw [← H.out, L_length] at h
        omega
      by_cases h0 : 0 < k
      all_goals
        go_wp2
        go_round
        case rel =>
          refine ⟨_, k + 1, by omega, by go_num, rfl, hid ?_⟩
          rw [HS.out]
          first
            | rw [if_pos h0, L_append, L_snoc, H.out]; simp
            | (rw [if_neg h0, L_append, H.out]; obtain rfl : k = 0 := by omega
               simp [joinK, join])
        case measure => simp [intOf]; omega
    · obtain rfl : k = xs.length := by omega
      go_wp2
      go_ret
      exact ⟨r, rfl, by rw [H.out, ← joinK_all (xs.map L), List.length_map], Below.refl _ _⟩
def Norms (n : List UInt8 × Nat) (w : World) (e : Ending) (w' : World) : Prop := ∃ r : ByteArray, e = .returned (.tuple #[.string r, .int .i64 (n.2 : Int)]) ∧ L r = n.1 ∧ Below w.heap.size w w'
theorem norms_mk {n : List UInt8 × Nat} {l : List UInt8} {k : Nat} {w w' : World} {e : Ending} (h : n = (l, k)) (r : ByteArray) (hr : L r = l) (he : e = .returned (.tuple #[.string r, .int .i64 (k : Int)])) (hb : Below w.heap.size w w') : Norms n w e w' := by
  subst h; exact ⟨r, he, hr, hb⟩
theorem takes_size {s : ByteArray} {ys : List ByteArray} (h : takes [] (pieces (L s)) = some (ys.map L)) : ∀ y ∈ ys, y.size ≤ s.size := by
  intro y hy
  rcases takes_mem h (L y) (List.mem_map_of_mem hy) with h | h
  · cases h
  · have := piece_length _ _ h
    rwa [L_length, L_length] at this
set_option maxRecDepth 100000 in
set_option maxHeartbeats 1000000 in
theorem refnormal_any (s : ByteArray) (w : World) (hs : s.size ≤ 900) : Calls Tryz.prog 146 #[.string s] w (Norms (normal (L s)) w) := by
  go_enter Tryz.func146, Tryz.ntmps146
  go_wp2_with fail
  refine (refparts_any s _ (by omega)).mono ?_
  rintro e w1 ⟨hb, ⟨ht, rfl⟩ | ⟨v, ys, rfl, hh, ht, hl⟩⟩
  · have HN : Hid (normal (L s) = ([], 30)) := hid (by unfold normal; rw [ht])
    have HB := hid hb
    clear hb ht
    go_wp2
    go_ret2
    exact norms_mk HN.out ⟨#[]⟩ rfl rfl HB.out
  · have HN : Hid (normal (L s) = finish (ys.map L)) := hid (by unfold normal; rw [ht])
    have hz := takes_size ht
    have HZ : Hid (∀ y ∈ ys, y.size ≤ 1000) := hid (fun y hy => Nat.le_trans (hz y hy) (by omega))
    have HB := hid hb
    have HH := hid hh
    clear hb ht hz
    obtain ⟨A, c, rfl, -⟩ := hh
    have hlen : (ys.map L).length = ys.length := List.length_map ..
    by_cases h0 : ys = []
    · subst h0
      have H : Hid (finish ([] : List (List UInt8)) = ([], 13)) := hid rfl
      go_wp2
      go_ret2
      exact norms_mk HN.out ⟨#[]⟩ rfl rfl HB.out
    · have hpos : 0 < ys.length := List.length_pos_iff.2 h0
      have hne : (ys.map L) ≠ [] := by simpa using h0
      have e0 : ((ys.length : Int) == 0) = false := by simp; exact h0
      by_cases h8 : 8 < ys.length
      · have H : Hid (finish (ys.map L) = ([], 31)) := hid (by unfold finish; rw [if_neg hne, hlen, if_pos h8])
        clear hlen hne h0
        go_wp2
        go_ret2
        exact norms_mk (HN.out.trans H.out) ⟨#[]⟩ rfl rfl HB.out
      · by_cases h64 : 64 < (join (ys.map L)).length
        · have H : Hid (finish (ys.map L) = ([], 11)) := hid (by unfold finish; rw [if_neg hne, hlen, if_neg h8, if_pos h64])
          have H64 := hid h64
          clear hlen hne h0 h64
          go_wp2_with fail
          refine (refjoin_any _ ys _ HH.out (by omega) HZ.out).mono ?_
          rintro e w2 ⟨r, rfl, hr, hb2⟩
          have hr64 : 64 < r.size := by rw [← L_length, hr]; exact H64.out
          have HB2 := hid (below_on HB.out hb2)
          clear hr hb2
          go_wp2
          go_ret2
          exact norms_mk (HN.out.trans H.out) ⟨#[]⟩ rfl rfl HB2.out
        · have H : Hid (finish (ys.map L) = (join (ys.map L), 0)) := hid (finish_ok hne (by omega) (by omega))
          have H64 := hid h64
          clear hlen hne h0 h64
          go_wp2_with fail
          refine (refjoin_any _ ys _ HH.out (by omega) HZ.out).mono ?_
          rintro e w2 ⟨r, rfl, hr, hb2⟩
          have hr64 : r.size ≤ 64 := by rw [← L_length, hr]; have := H64.out; omega
          have HB2 := hid (below_on HB.out hb2)
          have HH2 := hid (HH.out.below hb2)
          clear hr hb2
          go_wp2_with fail
          refine (refjoin_any _ ys _ HH2.out (by omega) HZ.out).mono ?_
          rintro e w3 ⟨r2, rfl, hr2, hb3⟩
          have HB3 := hid (below_on HB2.out hb3)
          have HR := hid hr2
          clear hr2 hb3
          go_wp2
          go_ret2
          exact norms_mk (HN.out.trans H.out) r2 HR.out rfl HB3.out
set_option maxRecDepth 100000 in
theorem refright_any (s : ByteArray) (w : World) (hs : s.size ≤ 900) : Calls Tryz.prog 111 #[.string s] w (Asks (.bool (right (L s))) w) := by
  have hr : right (L s) = decide ((normal (L s)).2 = 0 ∧ (normal (L s)).1 = L s) := by
    rw [right_eq]
    exact decide_eq_decide.2 ⟨fun h => by rw [h]; exact ⟨rfl, rfl⟩, fun h => Prod.ext h.2 h.1⟩
  by_cases h0 : (normal (L s)).2 = 0
  · have HR : Hid (right (L s) = decide ((normal (L s)).1 = L s)) := hid (by rw [hr]; exact decide_eq_decide.2 ⟨fun h => h.2, fun h => ⟨h0, h⟩⟩)
    have H0 := hid h0
    clear h0 hr
    go_enter Tryz.func111, Tryz.ntmps111
    go_wp2_with fail
    refine (refnormal_any s _ hs).mono ?_
    rintro e w1 ⟨r, rfl, hr, hb⟩
    rw [H0.out]
    have HB := hid hb
    have H := hid hr
    clear hb hr
    go_wp2
    go_ret
    exact ⟨ret_bool (by rw [HR.out, ← H.out, toList_L, toList_L, Bool.eq_iff_iff]; simp), HB.out⟩
  · have HR : Hid (right (L s) = false) := hid (by rw [hr]; exact decide_eq_false (fun h => h0 h.1))
    obtain ⟨k, hk⟩ : ∃ k : Nat, (normal (L s)).2 = k := ⟨_, rfl⟩
    rw [hk] at h0
    have e0 : ((k : Int) == 0) = false := by simpa using h0
    have HK := hid hk
    clear hk h0 hr
    go_enter Tryz.func111, Tryz.ntmps111
    go_wp2_with fail
    refine (refnormal_any s _ hs).mono ?_
    rintro e w1 ⟨r, rfl, hr, hb⟩
    rw [HK.out]
    have HB := hid hb
    clear hb hr
    go_wp2
    go_ret
    exact ⟨ret_bool HR.out.symm, HB.out⟩
end Go.Proofs.YtohffiehmmcgbaaGreatDoor
namespace Go.Proofs.YtohffiehmmcgbaaGreatDoor
open Go.ChangeShapes Go.WideShapes Go.ChangeAt Go.RowKit Go.Lib
set_option linter.unusedSimpArgs false
def hasBits : List Bool := [false, false, false, false, false, false, true, true, false, false, true, true, true, true, false, false, false, false, true, true, false, false, false, true, true, true, true, true, false, false, true, true, true, true, false, false, true, true, true, false, false, false, true, true, true, false, true, false, true, false, false, false, false, true]
def hasCells : Array Value := (hasBits.map Value.bool).toArray
theorem below_setRow {n g : Nat} {a w : World} (h : Below n a w) (hg : n ≤ g) (cs : Array Value) : Below n a (w.setRow g cs) :=
  ⟨h.os, h.tape, h.output, by have := h.size; simpa [World.setRow] using this, fun i hi => (setRow_other w g i cs (by omega)).trans (h.block i hi)⟩
theorem zeros54 (w : World) {zs : Array Value} (hz : #[Value.bool false, Value.bool false, Value.bool false, Value.bool false, Value.bool false, Value.bool false, Value.bool false, Value.bool false, Value.bool false, Value.bool false, Value.bool false, Value.bool false, Value.bool false, Value.bool false, Value.bool false, Value.bool false, Value.bool false, Value.bool false, Value.bool false, Value.bool false, Value.bool false, Value.bool false, Value.bool false, Value.bool false, Value.bool false, Value.bool false, Value.bool false, Value.bool false, Value.bool false, Value.bool false, Value.bool false, Value.bool false, Value.bool false, Value.bool false, Value.bool false, Value.bool false, Value.bool false, Value.bool false, Value.bool false, Value.bool false, Value.bool false, Value.bool false, Value.bool false, Value.bool false, Value.bool false, Value.bool false, Value.bool false, Value.bool false, Value.bool false, Value.bool false, Value.bool false, Value.bool false, Value.bool false, Value.bool false] = zs) : (w.alloc (.cells #[Value.bool false, Value.bool false, Value.bool false, Value.bool false, Value.bool false, Value.bool false, Value.bool false, Value.bool false, Value.bool false, Value.bool false, Value.bool false, Value.bool false, Value.bool false, Value.bool false, Value.bool false, Value.bool false, Value.bool false, Value.bool false, Value.bool false, Value.bool false, Value.bool false, Value.bool false, Value.bool false, Value.bool false, Value.bool false, Value.bool false, Value.bool false, Value.bool false, Value.bool false, Value.bool false, Value.bool false, Value.bool false, Value.bool false, Value.bool false, Value.bool false, Value.bool false, Value.bool false, Value.bool false, Value.bool false, Value.bool false, Value.bool false, Value.bool false, Value.bool false, Value.bool false, Value.bool false, Value.bool false, Value.bool false, Value.bool false, Value.bool false, Value.bool false, Value.bool false, Value.bool false, Value.bool false, Value.bool false] 139)).heap[w.heap.size]? = some (.cells zs 139 (0, 0)) := by
  subst hz
  exact Blk.new w _ _
set_option maxRecDepth 100000 in
set_option maxHeartbeats 1000000 in
theorem has_ref (w : World) : Calls Tryz.prog 101 #[] w fun e w' => e = .returned (.agg hasCells) ∧ Below w.heap.size w w' := by
  obtain ⟨zs, hz⟩ : ∃ zs, #[Value.bool false, Value.bool false, Value.bool false, Value.bool false, Value.bool false, Value.bool false, Value.bool false, Value.bool false, Value.bool false, Value.bool false, Value.bool false, Value.bool false, Value.bool false, Value.bool false, Value.bool false, Value.bool false, Value.bool false, Value.bool false, Value.bool false, Value.bool false, Value.bool false, Value.bool false, Value.bool false, Value.bool false, Value.bool false, Value.bool false, Value.bool false, Value.bool false, Value.bool false, Value.bool false, Value.bool false, Value.bool false, Value.bool false, Value.bool false, Value.bool false, Value.bool false, Value.bool false, Value.bool false, Value.bool false, Value.bool false, Value.bool false, Value.bool false, Value.bool false, Value.bool false, Value.bool false, Value.bool false, Value.bool false, Value.bool false, Value.bool false, Value.bool false, Value.bool false, Value.bool false, Value.bool false, Value.bool false] = zs := ⟨_, rfl⟩
  have N := hid (zeros54 w hz)
  have H4 : Hid ((Tryz.prog.info? 139).map (·.size) = some hasCells.size) := hid (by kernel_rfl)
  have H6 : Hid (zs.size = hasCells.size) := hid (by rw [← hz]; rfl)
  have H5 : Hid (hasCells.all (·.oneCell') = true) := hid (by kernel_rfl)
  have HZ := hid hz
  clear hz
  go_enter Tryz.func101, Tryz.ntmps101
  go_wp2_with (first
    | (with_reducible refine wpList_buildTo (o := ⟨some 10, _, _, _, _, _⟩) rfl 139 _ rfl (some 10) rfl hasCells (by kernel_rfl) ?_)
    | (with_reducible refine wpList_store_row (o := ⟨none, _, _, _, _, _⟩) rfl 139 (.tmp 0) (.tmp 10) rfl w.heap.size hasCells rfl rfl 139 zs N.out H4.out H6.out H5.out ?_))
  obtain ⟨W0, hW0⟩ : ∃ W0, w.alloc (.cells #[Value.bool false, Value.bool false, Value.bool false, Value.bool false, Value.bool false, Value.bool false, Value.bool false, Value.bool false, Value.bool false, Value.bool false, Value.bool false, Value.bool false, Value.bool false, Value.bool false, Value.bool false, Value.bool false, Value.bool false, Value.bool false, Value.bool false, Value.bool false, Value.bool false, Value.bool false, Value.bool false, Value.bool false, Value.bool false, Value.bool false, Value.bool false, Value.bool false, Value.bool false, Value.bool false, Value.bool false, Value.bool false, Value.bool false, Value.bool false, Value.bool false, Value.bool false, Value.bool false, Value.bool false, Value.bool false, Value.bool false, Value.bool false, Value.bool false, Value.bool false, Value.bool false, Value.bool false, Value.bool false, Value.bool false, Value.bool false, Value.bool false, Value.bool false, Value.bool false, Value.bool false, Value.bool false, Value.bool false] 139) = W0 := ⟨_, rfl⟩
  rw [hW0] at N ⊢
  have HB0 : Hid (Below w.heap.size w W0) := hid (by rw [← hW0]; exact (Below.refl _ _).alloc (Nat.le_refl _) _)
  have K : Hid ((W0.setRow w.heap.size hasCells).heap[w.heap.size]? = some (.cells hasCells 139 (0, 0))) := hid (setRow_heap W0 w.heap.size zs hasCells 139 (0, 0) N.out)
  have HB1 : Hid (Below w.heap.size w (W0.setRow w.heap.size hasCells)) := hid (below_setRow HB0.out (Nat.le_refl _) _)
  clear hW0
  exact bodyPost_ret (v := .agg hasCells) (results_cell_row Tryz.results101 _ _ w.heap.size 139 hasCells (0, 0) _ rfl K.out Tryz.underlying139 rfl H4.out) rfl ⟨rfl, HB1.out⟩
theorem has_ix0 (W : World) : (Instr.index 139 (.agg hasCells) (.int .i64 0)).run Tryz.prog W = .ok (.agg #[Value.bool false, Value.bool false, Value.bool false, Value.bool false, Value.bool false, Value.bool false]) W := by kernel_rfl
theorem has_ix1 (W : World) : (Instr.index 139 (.agg hasCells) (.int .i64 1)).run Tryz.prog W = .ok (.agg #[Value.bool true, Value.bool true, Value.bool false, Value.bool false, Value.bool true, Value.bool true]) W := by kernel_rfl
theorem has_ix2 (W : World) : (Instr.index 139 (.agg hasCells) (.int .i64 2)).run Tryz.prog W = .ok (.agg #[Value.bool true, Value.bool true, Value.bool false, Value.bool false, Value.bool false, Value.bool false]) W := by kernel_rfl
theorem has_ix3 (W : World) : (Instr.index 139 (.agg hasCells) (.int .i64 3)).run Tryz.prog W = .ok (.agg #[Value.bool true, Value.bool true, Value.bool false, Value.bool false, Value.bool false, Value.bool true]) W := by kernel_rfl
theorem has_ix4 (W : World) : (Instr.index 139 (.agg hasCells) (.int .i64 4)).run Tryz.prog W = .ok (.agg #[Value.bool true, Value.bool true, Value.bool true, Value.bool true, Value.bool false, Value.bool false]) W := by kernel_rfl
theorem has_ix5 (W : World) : (Instr.index 139 (.agg hasCells) (.int .i64 5)).run Tryz.prog W = .ok (.agg #[Value.bool true, Value.bool true, Value.bool true, Value.bool true, Value.bool false, Value.bool false]) W := by kernel_rfl
theorem has_ix6 (W : World) : (Instr.index 139 (.agg hasCells) (.int .i64 6)).run Tryz.prog W = .ok (.agg #[Value.bool true, Value.bool true, Value.bool true, Value.bool false, Value.bool false, Value.bool false]) W := by kernel_rfl
theorem has_ix7 (W : World) : (Instr.index 139 (.agg hasCells) (.int .i64 7)).run Tryz.prog W = .ok (.agg #[Value.bool true, Value.bool true, Value.bool true, Value.bool false, Value.bool true, Value.bool false]) W := by kernel_rfl
theorem has_ix8 (W : World) : (Instr.index 139 (.agg hasCells) (.int .i64 8)).run Tryz.prog W = .ok (.agg #[Value.bool true, Value.bool false, Value.bool false, Value.bool false, Value.bool false, Value.bool true]) W := by kernel_rfl
def BoxedC (w0 w : World) (g : Nat) (c : K) : Prop := Blk w g 45 (cellsOf c) ∧ w0.heap.size ≤ g ∧ Below w0.heap.size w0 w
theorem BoxedC.lt {w0 w : World} {g : Nat} {c : K} (h : BoxedC w0 w g c) : g < w.heap.size := h.1.lt
theorem BoxedC.below {w0 w : World} {g : Nat} {c : K} (h : BoxedC w0 w g c) : Below w0.heap.size w0 w := h.2.2
theorem BoxedC.on {w0 w w' : World} {g : Nat} {c : K} (h : BoxedC w0 w g c) (hb : Below w.heap.size w w') : BoxedC w0 w' g c :=
  ⟨h.1.below hb h.1.lt, h.2.1, h.2.2.trans (hb.mono h.2.2.size)⟩
theorem BoxedC.drew {w0 w : World} {g : Nat} {c : K} (h : BoxedC w0 w g c) : BoxedC w0 w.drew g c := ⟨h.1.drew, h.2.1, below_drew h.2.2⟩
theorem BoxedC.alloc {w0 w : World} {g : Nat} {c : K} (h : BoxedC w0 w g c) (o : Obj) : BoxedC w0 (w.alloc o) g c := h.on ((Below.refl _ _).alloc (Nat.le_refl _) o)
theorem BoxedC.far {w0 w : World} {g : Nat} {c : K} (h : BoxedC w0 w g c) {p : Addr} (hp : g ≠ p.block) (h0 : w0.heap.size ≤ p.block) (u : Value) : BoxedC w0 (w.setCell p u) g c :=
  ⟨h.1.far hp u, h.2.1, Below.setCell (p := p) h.2.2 h0 u⟩
theorem BoxedC.start (w : World) (c : K) : BoxedC w (w.alloc (.cells (cellsOf c) 45)) w.heap.size c :=
  ⟨Blk.new _ _ _, Nat.le_refl _, (Below.refl _ _).alloc (Nat.le_refl _) _⟩
theorem BoxedC.kind {w0 w : World} {g : Nat} {c : K} (h : BoxedC w0 w g c) : w.cell? ⟨g, 0, none⟩ = some (.int .i64 c.kind) := (cells8 h.1).1.1
def RowAt7 (w : World) (h : Nat) (a b c d e f : Bool) : Prop := Blk w h 138 #[.bool a, .bool b, .bool c, .bool d, .bool e, .bool f]
theorem row7 {w : World} {h : Nat} {a b c d e f : Bool} (r : RowAt7 w h a b c d e f) : (w.cell? ⟨h, 0, none⟩ = some (.bool a) ∧ w.cell? ⟨h, 1, none⟩ = some (.bool b) ∧ w.cell? ⟨h, 2, none⟩ = some (.bool c) ∧ w.cell? ⟨h, 3, none⟩ = some (.bool d) ∧ w.cell? ⟨h, 4, none⟩ = some (.bool e) ∧ w.cell? ⟨h, 5, none⟩ = some (.bool f)) :=
  ⟨(Blk.cell r 0).trans rfl, (Blk.cell r 1).trans rfl, (Blk.cell r 2).trans rfl, (Blk.cell r 3).trans rfl, (Blk.cell r 4).trans rfl, (Blk.cell r 5).trans rfl⟩
theorem rowf7 {w : World} {h : Nat} {a b c d e f : Bool} (r : RowAt7 w h a b c d e f) : w.frozen? ⟨h, 0, none⟩ = false ∧ w.frozen? ⟨h, 1, none⟩ = false ∧ w.frozen? ⟨h, 2, none⟩ = false ∧ w.frozen? ⟨h, 3, none⟩ = false ∧ w.frozen? ⟨h, 4, none⟩ = false ∧ w.frozen? ⟨h, 5, none⟩ = false :=
  ⟨Blk.frozen r 0, Blk.frozen r 1, Blk.frozen r 2, Blk.frozen r 3, Blk.frozen r 4, Blk.frozen r 5⟩
theorem row7_put {w : World} {h : Nat} {a b c d e f a' b' c' d' e' f' : Bool} (r : RowAt7 w h a b c d e f) : RowAt7 ((((((w.setCell ⟨h, 0, none⟩ (.bool a')).setCell ⟨h, 1, none⟩ (.bool b')).setCell ⟨h, 2, none⟩ (.bool c')).setCell ⟨h, 3, none⟩ (.bool d')).setCell ⟨h, 4, none⟩ (.bool e')).setCell ⟨h, 5, none⟩ (.bool f')) h a' b' c' d' e' f' :=
  (((((Blk.set_ r 0 (.bool a')).set_ 1 (.bool b')).set_ 2 (.bool c')).set_ 3 (.bool d')).set_ 4 (.bool e')).set_ 5 (.bool f')
theorem BoxedC.row {w0 w : World} {g h : Nat} {c : K} (hk : BoxedC w0 w g c) (hg : g ≠ h) (h0 : w0.heap.size ≤ h) (a b c' d e f : Value) : BoxedC w0 ((((((w.setCell ⟨h, 0, none⟩ a).setCell ⟨h, 1, none⟩ b).setCell ⟨h, 2, none⟩ c').setCell ⟨h, 3, none⟩ d).setCell ⟨h, 4, none⟩ e).setCell ⟨h, 5, none⟩ f) g c :=
  (((((hk.far (p := ⟨h, 0, none⟩) hg h0 a).far (p := ⟨h, 1, none⟩) hg h0 b).far (p := ⟨h, 2, none⟩) hg h0 c').far (p := ⟨h, 3, none⟩) hg h0 d).far (p := ⟨h, 4, none⟩) hg h0 e).far (p := ⟨h, 5, none⟩) hg h0 f
theorem row_first {W w1 : World} (hb : Below (W.alloc (.cells #[.bool false, .bool false, .bool false, .bool false, .bool false, .bool false] 138)).drew.heap.size (W.alloc (.cells #[.bool false, .bool false, .bool false, .bool false, .bool false, .bool false] 138)).drew w1) : RowAt7 w1 W.heap.size false false false false false false := by
  have h := Blk.new W 138 #[.bool false, .bool false, .bool false, .bool false, .bool false, .bool false]
  exact h.drew.below hb h.lt
end Go.Proofs.YtohffiehmmcgbaaGreatDoor
