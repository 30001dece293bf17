/-
  Contracts of strings.Join with a slash, strings.Clone and path.Normal.
-/
import Derived.Test.YtbnhkpceihfalaaPRefA
import Derived.Lib.Join
namespace Go.Proofs.Ytbnhkpceihfalaa
open Go.ChangeShapes Go.WideShapes Go.ChangeAt Go.RowKit Go.Shelf
attribute [local go_sem] Oper.semAt_some

theorem lib_join : ∀ xs : List (List UInt8), Lib.join xs [47] = join xs
  | [] => rfl
  | [x] => Lib.join_one x [47]
  | x :: y :: r => by
    have ih := lib_join (y :: r)
    unfold Lib.join at ih ⊢
    rw [join_cons (by simp), ← ih]
    simp [List.intercalate, List.intersperse]

theorem join_le {xs : List ByteArray} (m : Nat) (hm : ∀ x ∈ xs, x.size ≤ m) : (join (xs.map L)).length ≤ xs.length * (m + 1) := by
  have h := joinK_le (xs.map L) m (by intro x hx; obtain ⟨y, hy, rfl⟩ := List.mem_map.1 hx; rw [L_length]; exact hm y hy) (xs.map L).length (Nat.le_refl _)
  rwa [joinK_all, List.length_map] at h

theorem join_any (A : Option Addr) (n c : Nat) (xs : List ByteArray) (w : World) (hn : xs.length = n) (hc : n ≤ c) (hl : n ≤ 1000) (hz : ∀ x ∈ xs, x.size ≤ 1000) (hv : Vals w A (strs xs)) :
    Calls Try.prog 31 #[.slice A n c, .string ⟨#[47]⟩] w (Tells (join (xs.map L)) w) := by
  subst hn
  by_cases h0 : xs = []
  · subst h0
    refine (Try.strings_Join_none A c ⟨#[47]⟩ w).mono ?_
    rintro e w' ⟨rfl, rfl⟩
    exact ⟨_, rfl, rfl, Below.refl _ _⟩
  · obtain ⟨b, o, rfl, hb, _⟩ := strs_at hv (List.length_pos_iff.2 h0)
    have hle := join_le 1000 hz
    have hm : xs.length * 1001 ≤ 1000 * 1001 := Nat.mul_le_mul_right _ hl
    refine (Try.strings_Join b o c xs ⟨#[47]⟩ w ?_ hb (by omega) hc ?_).mono ?_
    · intro j x hj
      obtain ⟨b', o', he, _, hcell⟩ := hv j (.string x) (by simp [strs, hj])
      injection he with he
      injection he with h1 h2
      subst h1; subst h2
      exact hcell
    · show (Lib.join (xs.map L) [47]).length ≤ _
      rw [lib_join]
      omega
    · rintro e w' ⟨rfl, hb⟩
      refine ⟨_, rfl, ?_, hb⟩
      rw [L_mk]
      exact lib_join _

theorem clone_any (s : ByteArray) (w : World) (hs : s.size ≤ 281474976710656) : Calls Try.prog 32 #[.string s] w (Asks (.string s) w) := by
  go_enter Try.func32, Try.ntmps32
  go_wp2_with fail
  refine (Try.stringslite_Clone s _ hs).mono ?_
  rintro e w1 ⟨rfl, hb⟩
  have HB := hid hb
  clear hb
  go_wp2
  go_ret
  exact ⟨rfl, HB.out⟩

/-- Between two rounds: what is left of the parts that came, and that the first eight of these are kept. -/
structure NormAt (h : Nat) (w : World) (pre : List ByteArray) (st : List (List UInt8)) (kept : List ByteArray) (d : Nat) (W : World) : Prop where
  took : takes [] (pre.map L) = some st
  eight : kept.length = 8
  same : ∀ (j : Nat) (h1 : j < kept.length) (h2 : j < st.length), L kept[j] = st[j]
  deep : st.length = d
  few : d ≤ pre.length
  mem : ∀ y ∈ kept, y = ⟨#[]⟩ ∨ y ∈ pre
  r0 : Blk W h 9 #[.string ⟨#[]⟩]
  r1 : Blk W (h + 1) 23 #[.int .i64 0]
  r2 : Blk W (h + 1 + 1) 40 (strs kept).toArray
  r3 : Blk W (h + 1 + 1 + 1) 3 #[.int .i64 (d : Int)]
  old : Below h w W
def NormIn (h : Nat) (w : World) (pre : List ByteArray) (W : World) : Prop := ∃ st kept d, NormAt h w pre st kept d W
def NormEnd (h : Nat) (w : World) (c : Code) (pre : List ByteArray) (W : World) : Prop :=
  c = .ret ∧ takes [] (pre.map L) = none ∧ Blk W h 9 #[.string ⟨#[]⟩] ∧ Blk W (h + 1) 23 #[.int .i64 30] ∧ Below h w W
theorem NormIn.own (h : Nat) (w : World) (B : Nat) (hw : h ≤ w.heap.size) (hB : h ≤ B) : OwnFrom B (NormIn h w) := fun _ _ _ _ ⟨st, kept, d, n⟩ hg hr =>
  ⟨st, kept, d, n.took, n.eight, n.same, n.deep, n.few, n.mem, n.r0.own hg hr, n.r1.own hg hr, n.r2.own hg hr, n.r3.own hg hr, below_own n.old hw hB hg hr⟩
theorem NormEnd.own (h : Nat) (w : World) (c : Code) (B : Nat) (hw : h ≤ w.heap.size) (hB : h ≤ B) : OwnFrom B (NormEnd h w c) := fun _ _ _ _ hs hg hr =>
  ⟨hs.1, hs.2.1, hs.2.2.1.own hg hr, hs.2.2.2.1.own hg hr, below_own hs.2.2.2.2 hw hB hg hr⟩

theorem took_snoc {pre : List ByteArray} {st : List (List UInt8)} (h : takes [] (pre.map L) = some st) (x : ByteArray) : takes [] ((pre ++ [x]).map L) = take1 st (L x) := by
  rw [List.map_append, List.map_singleton, takes_snoc, h]; rfl
theorem mem_snoc {kept pre : List ByteArray} (h : ∀ y ∈ kept, y = ⟨#[]⟩ ∨ y ∈ pre) (x : ByteArray) : ∀ y ∈ kept, y = ⟨#[]⟩ ∨ y ∈ pre ++ [x] := fun y hy => by
  rcases h y hy with h | h
  · exact .inl h
  · exact .inr (List.mem_append_left _ h)
theorem same_pop {kept : List ByteArray} {st : List (List UInt8)} (h : ∀ (j : Nat) (h1 : j < kept.length) (h2 : j < st.length), L kept[j] = st[j]) :
    ∀ (j : Nat) (h1 : j < kept.length) (h2 : j < st.dropLast.length), L kept[j] = st.dropLast[j] := fun j h1 h2 => by
  rw [List.getElem_dropLast]
  exact h j h1 (by rw [List.length_dropLast] at h2; omega)
theorem same_deep {kept : List ByteArray} {st : List (List UInt8)} (h : ∀ (j : Nat) (h1 : j < kept.length) (h2 : j < st.length), L kept[j] = st[j]) (p : List UInt8) (hd : kept.length ≤ st.length) :
    ∀ (j : Nat) (h1 : j < kept.length) (h2 : j < (st ++ [p]).length), L kept[j] = (st ++ [p])[j] := fun j h1 h2 => by
  rw [List.getElem_append_left (by omega)]
  exact h j h1 (by omega)
theorem same_push {kept : List ByteArray} {st : List (List UInt8)} (h : ∀ (j : Nat) (h1 : j < kept.length) (h2 : j < st.length), L kept[j] = st[j]) (x : ByteArray) (d : Nat) (hd : st.length = d) (_hlt : d < kept.length) :
    ∀ (j : Nat) (h1 : j < (kept.set d x).length) (h2 : j < (st ++ [L x]).length), L (kept.set d x)[j] = (st ++ [L x])[j] := fun j h1 h2 => by
  subst hd
  rw [List.length_set] at h1
  by_cases hj : j = st.length
  · subst hj; simp
  · rw [List.getElem_set_ne (by omega), List.getElem_append_left (by simp at h2; omega)]
    exact h j h1 (by simp at h2; omega)
theorem strs_set (xs : List ByteArray) (k : Nat) (x : ByteArray) : (strs xs).toArray.setIfInBounds k (.string x) = (strs (xs.set k x)).toArray := by
  simp [strs, List.map_set]

theorem norm_ends {W : World} {h D : Nat} {t0 t1 : TypeId} {u0 u1 : Value} (b0 : Blk W h t0 #[u0]) (b1 : Blk W (h + 1) t1 #[u1]) (hK : W.heap[D]? = some (.deferred (some []))) (v0 v1 : Value) :
    ((W.setCell ⟨h, 0, none⟩ v0).setCell ⟨h + 1, 0, none⟩ v1).heap[D]? = some (.deferred (some [])) ∧
    (((W.setCell ⟨h, 0, none⟩ v0).setCell ⟨h + 1, 0, none⟩ v1).putObj D (.deferred none)).cell? ⟨h, 0, none⟩ = some v0 ∧
    (((W.setCell ⟨h, 0, none⟩ v0).setCell ⟨h + 1, 0, none⟩ v1).putObj D (.deferred none)).cell? ⟨h + 1, 0, none⟩ = some v1 := by
  have hK' := ((KeepsOthers.setCell W ⟨h, 0, none⟩ v0).trans (KeepsOthers.setCell _ ⟨h + 1, 0, none⟩ v1)).same D _ hK rfl
  have d0 := ((b0.set_ 0 v0).far (p := ⟨h + 1, 0, none⟩) (by simp) v1).own (grownBy_putObj' _ D (.deferred none)) (B := D) (fun r e => by cases e; exact ⟨Nat.le_refl _, _, hK', rfl⟩)
  have d1 := ((b1.far (p := ⟨h, 0, none⟩) (by simp) v0).set_ 0 v1).own (grownBy_putObj' _ D (.deferred none)) (B := D) (fun r e => by cases e; exact ⟨Nat.le_refl _, _, hK', rfl⟩)
  exact ⟨hK', d0.cell 0, d1.cell 0⟩

set_option maxRecDepth 100000 in
set_option maxHeartbeats 4000000 in
theorem normal_walk (s : ByteArray) (w : World) (hs : s.size ≤ 900) : Calls Try.prog 11 #[.string s] w (Norms (normal (L s)) w) := by
  refine (callsIn_wide (n := 9)).1 ?_
  refine callsIn_of_wp_marks Try.func11 rfl trivial ?_ rfl
  simp only [Try.ntmps11, List.size_toArray, List.length_cons, List.length_nil, Nat.reduceAdd, Nat.reduceSub, Array.replicate_succ, Array.replicate_zero, List.push_toArray, List.append_toArray, List.nil_append, List.cons_append]
  gi_wp2_with fail
  refine ⟨trivial, ?_⟩
  refine (callsIn_wide.2 (pieces_any s _)).mono ?_
  rintro e w1 ⟨rfl, rfl⟩
  gi_wp2
  have b0 := Blk.new w 9 #[.string ⟨#[]⟩]
  have b1 := Blk.new (w.alloc (.cells #[.string ⟨#[]⟩] 9)) 23 #[.int .i64 0]
  have b2 := Blk.new ((w.alloc (.cells #[.string ⟨#[]⟩] 9)).alloc (.cells #[.int .i64 0] 23)) 40 (strs (List.replicate 8 ⟨#[]⟩)).toArray
  have b3 := Blk.new (((w.alloc (.cells #[.string ⟨#[]⟩] 9)).alloc (.cells #[.int .i64 0] 23)).alloc (.cells (strs (List.replicate 8 ⟨#[]⟩)).toArray 40)) 3 #[.int .i64 0]
  have b4 := Blk.new ((((w.alloc (.cells #[.string ⟨#[]⟩] 9)).alloc (.cells #[.int .i64 0] 23)).alloc (.cells (strs (List.replicate 8 ⟨#[]⟩)).toArray 40)).alloc (.cells #[.int .i64 0] 3)) 9 #[.string s]
  simp only [World.size_alloc] at b1 b2 b3 b4
  have hB0 : Below w.heap.size w (((((w.alloc (.cells #[.string ⟨#[]⟩] 9)).alloc (.cells #[.int .i64 0] 23)).alloc (.cells (strs (List.replicate 8 ⟨#[]⟩)).toArray 40)).alloc (.cells #[.int .i64 0] 3)).alloc (.cells #[.string s] 9)) :=
    (((((Below.refl _ w).alloc (Nat.le_refl _) _).alloc (by simp) _).alloc (by simp <;> omega) _).alloc (by simp <;> omega) _).alloc (by simp <;> omega) _
  refine wpIn_rangeFunc_ownF rfl (by omega) (gf := 43) (lb := #[.pointer (some ⟨w.heap.size + 1 + 1 + 1 + 1, 0, none⟩)]) rfl trivial (enters_of Try.func43 (by kernel_rfl) rfl)
    (pieces_stops _ (by omega) s (by omega) (w.heap.size + 1 + 1 + 1 + 1) _ b4.lt (b4.cell 0)) (fun _ _ => trivial) (fun _ _ _ _ _ _ _ _ => trivial) (Below.refl _ _) (fun _ => rfl)
    (NormIn w.heap.size w) (NormEnd w.heap.size w)
    (NormIn.own _ _ _ (Nat.le_refl _) (by simp <;> omega)) (fun c => NormEnd.own _ _ _ _ (Nat.le_refl _) (by simp <;> omega))
    ⟨[], List.replicate 8 ⟨#[]⟩, 0, rfl, rfl, (fun j _ h => absurd h (Nat.not_lt_zero _)), rfl, Nat.le_refl _, (fun y hy => .inl (List.eq_of_mem_replicate hy)), (((b0.alloc _).alloc _).alloc _).alloc _, ((b1.alloc _).alloc _).alloc _, (b2.alloc _).alloc _, b3.alloc _, hB0⟩
    (fun x => { tmps := #[.string s, undef, .pointer (some ⟨w.heap.size, 0, none⟩), .pointer (some ⟨w.heap.size + 1, 0, none⟩), .pointer (some ⟨w.heap.size + 1 + 1, 0, none⟩), .pointer (some ⟨w.heap.size + 1 + 1 + 1, 0, none⟩), .string x, undef, .string s, .func (.func 43) #[] #[.pointer (some ⟨w.heap.size + 1 + 1 + 1 + 1, 0, none⟩)], .string x, undef, undef, undef, undef, undef, undef, undef, undef, undef, undef, undef, undef, undef, undef, undef, undef, undef, undef, undef, undef, undef, undef, undef, undef, undef, undef, undef, undef, undef, undef, undef, undef, undef, undef, undef, undef, undef, undef], defers := [] }) ?assign ?body ?done ?stop
  case assign =>
    intro l x W K hK
    gi_wp2
    exact hK
  case body =>
    rintro l pre x W ⟨st, kept, d, N⟩ hlen
    have hd : d ≤ 901 := by have := N.few; omega
    have hx8 : x.size ≤ 900 ∨ True := .inr trivial
    have c3 := N.r3.cell 0
    have f3 := N.r3.frozen 0
    have HT := hid (took_snoc N.took x)
    have HN := hid N
    clear hlen hx8
    by_cases h1 : L x = [] ∨ L x = [46]
    · have HT2 := hid (HT.out.trans (take1_none h1))
      rcases h1 with h1 | h1
      · have e1 : x.toList = [] := by rw [toList_L]; exact h1
        have e2 : x.toList.isEmpty = true := by rw [e1]; rfl
        clear h1 N
        gi_wp2
        exact ⟨KeepsOthers.refl _, trivial, st, kept, d, HT2.out, HN.out.eight, HN.out.same, HN.out.deep, by have := HN.out.few; simp; omega, mem_snoc HN.out.mem x, HN.out.r0, HN.out.r1, HN.out.r2, HN.out.r3, HN.out.old⟩
      · obtain ⟨e1, e2⟩ := not_empty h1 (by simp)
        obtain ⟨e3, e4⟩ := spell_is h1
        clear h1 N
        gi_wp2
        exact ⟨KeepsOthers.refl _, trivial, st, kept, d, HT2.out, HN.out.eight, HN.out.same, HN.out.deep, by have := HN.out.few; simp; omega, mem_snoc HN.out.mem x, HN.out.r0, HN.out.r1, HN.out.r2, HN.out.r3, HN.out.old⟩
    · obtain ⟨e1, e2⟩ := not_empty (p := x) rfl (fun h => h1 (.inl h))
      obtain ⟨e3, e4⟩ := spell (c := [46]) (p := x) (fun h => h1 (.inr h))
      have H1 := hid h1
      clear h1
      by_cases h2 : L x = [46, 46]
      · obtain ⟨e5, e6⟩ := spell_is h2
        have e3 : (x.toList == [46]) = false := by rw [e6]; decide
        have H2 := hid h2
        clear e6 e4 h2
        by_cases h0 : 0 < d
        · have HS : Hid (takes [] ((pre ++ [x]).map L) = some st.dropLast) := hid (by
            rw [HT.out, H2.out, take1_up, if_neg]
            rintro rfl
            have := N.deep; simp at this; omega)
          obtain ⟨m, rfl⟩ : ∃ m, d = m + 1 := ⟨d - 1, by omega⟩
          clear N
          gi_wp2
          exact ⟨KeepsOthers.setCell _ _ _, trivial, st.dropLast, kept, m, HS.out, HN.out.eight, same_pop HN.out.same, by rw [List.length_dropLast, HN.out.deep]; omega, by have := HN.out.few; simp; omega, mem_snoc HN.out.mem x, HN.out.r0.far (by simp <;> omega) _, HN.out.r1.far (by simp <;> omega) _, HN.out.r2.far (by simp <;> omega) _, HN.out.r3.set_ 0 _, HN.out.old.setCell (p := ⟨w.heap.size + 1 + 1 + 1, 0, none⟩) (by simp <;> omega) _⟩
        · have HS : Hid (takes [] ((pre ++ [x]).map L) = none) := hid (by
            rw [HT.out, H2.out, take1_up, if_pos]
            have := N.deep
            exact List.eq_nil_of_length_eq_zero (by omega))
          have HP : Hid (isPart (L x) = false) := hid (by rw [H2.out]; decide)
          obtain rfl : d = 0 := by omega
          clear N h0
          gi_wp2_with fail
          refine ⟨trivial, ?_⟩
          refine (CallsIn.inRound l (callsIn_wide.2 (part_any x _))).mono ?_
          rintro e w1 ⟨rfl, hb⟩
          rw [HP.out]
          have d0 := HN.out.r0.below hb HN.out.r0.lt
          have d1 := HN.out.r1.below hb HN.out.r1.lt
          have g0 := d0.cell 0
          have g1 := d1.cell 0
          have q0 := d0.frozen 0
          have q1 := d1.frozen 0
          have HB := hid hb
          clear hb
          gi_wp2
          exact ⟨((keeps_below HB.out).trans (KeepsOthers.setCell _ _ _)).trans (KeepsOthers.setCell _ _ _), rfl, HS.out, (d0.set_ 0 _).far (by simp) _, (d1.far (by simp) _).set_ 0 _, ((HN.out.old.trans (HB.out.mono HN.out.old.size)).setCell (p := ⟨w.heap.size, 0, none⟩) (by simp) _).setCell (p := ⟨w.heap.size + 1, 0, none⟩) (by simp) _⟩
      · obtain ⟨e5, e6⟩ := spell h2
        have H2 := hid h2
        clear h2
        cases hp : isPart (L x) with
        | false =>
          have HS := hid (HT.out.trans (take1_bad H1.out H2.out hp))
          have HP := hid hp
          clear hp N
          gi_wp2_with fail
          refine ⟨trivial, ?_⟩
          refine (CallsIn.inRound l (callsIn_wide.2 (part_any x _))).mono ?_
          rintro e w1 ⟨rfl, hb⟩
          rw [HP.out]
          have d0 := HN.out.r0.below hb HN.out.r0.lt
          have d1 := HN.out.r1.below hb HN.out.r1.lt
          have g0 := d0.cell 0
          have g1 := d1.cell 0
          have q0 := d0.frozen 0
          have q1 := d1.frozen 0
          have HB := hid hb
          clear hb
          gi_wp2
          exact ⟨((keeps_below HB.out).trans (KeepsOthers.setCell _ _ _)).trans (KeepsOthers.setCell _ _ _), rfl, HS.out, (d0.set_ 0 _).far (by simp) _, (d1.far (by simp) _).set_ 0 _, ((HN.out.old.trans (HB.out.mono HN.out.old.size)).setCell (p := ⟨w.heap.size, 0, none⟩) (by simp) _).setCell (p := ⟨w.heap.size + 1, 0, none⟩) (by simp) _⟩
        | true =>
          have HS := hid (HT.out.trans (take1_part hp))
          have HP := hid hp
          clear hp N
          by_cases h8 : d < 8
          · gi_wp2_with fail
            refine ⟨trivial, ?_⟩
            refine (CallsIn.inRound l (callsIn_wide.2 (part_any x _))).mono ?_
            rintro e w1 ⟨rfl, hb⟩
            rw [HP.out]
            have d0 := HN.out.r0.below hb HN.out.r0.lt
            have d1 := HN.out.r1.below hb HN.out.r1.lt
            have d2 := HN.out.r2.below hb HN.out.r2.lt
            have d3 := HN.out.r3.below hb HN.out.r3.lt
            obtain ⟨u, g2⟩ : ∃ u, w1.cell? ⟨w.heap.size + 1 + 1, d, none⟩ = some u := ⟨_, by rw [d2.cell d]; exact Array.getElem?_eq_getElem (by rw [List.size_toArray, strs_length, HN.out.eight]; exact h8)⟩
            have g3 := d3.cell 0
            have q2 := d2.frozen d
            have q3 := d3.frozen 0
            have HB := hid hb
            clear hb
            gi_wp2
            refine ⟨((keeps_below HB.out).trans (KeepsOthers.setCell _ _ _)).trans (KeepsOthers.setCell _ _ _), trivial, st ++ [L x], kept.set d x, d + 1, HS.out, by rw [List.length_set]; exact HN.out.eight, same_push HN.out.same x d HN.out.deep (by rw [HN.out.eight]; exact h8), by simp [HN.out.deep], by have := HN.out.few; simp; omega, ?_, (d0.far (by simp <;> omega) _).far (by simp <;> omega) _, (d1.far (by simp <;> omega) _).far (by simp <;> omega) _, ?_, ?_, ((HN.out.old.trans (HB.out.mono HN.out.old.size)).setCell (p := ⟨w.heap.size + 1 + 1, d, none⟩) (by simp <;> omega) _).setCell (p := ⟨w.heap.size + 1 + 1 + 1, 0, none⟩) (by simp <;> omega) _⟩
            · intro y hy
              rcases List.mem_or_eq_of_mem_set hy with hy | rfl
              · exact mem_snoc HN.out.mem x y hy
              · exact .inr (by simp)
            · rw [← strs_set]
              exact (d2.set_ d _).far (by simp) _
            · exact (d3.far (by simp) _).set_ 0 (.int .i64 ((d : Int) + 1))
          · gi_wp2_with fail
            refine ⟨trivial, ?_⟩
            refine (CallsIn.inRound l (callsIn_wide.2 (part_any x _))).mono ?_
            rintro e w1 ⟨rfl, hb⟩
            rw [HP.out]
            have d0 := HN.out.r0.below hb HN.out.r0.lt
            have d1 := HN.out.r1.below hb HN.out.r1.lt
            have d2 := HN.out.r2.below hb HN.out.r2.lt
            have d3 := HN.out.r3.below hb HN.out.r3.lt
            have g3 := d3.cell 0
            have q3 := d3.frozen 0
            have HB := hid hb
            clear hb
            gi_wp2
            refine ⟨(keeps_below HB.out).trans (KeepsOthers.setCell _ _ _), trivial, st ++ [L x], kept, d + 1, HS.out, HN.out.eight, same_deep HN.out.same _ (by rw [HN.out.eight, HN.out.deep]; omega), by simp [HN.out.deep], by have := HN.out.few; simp; omega, mem_snoc HN.out.mem x, d0.far (by simp <;> omega) _, d1.far (by simp <;> omega) _, d2.far (by simp <;> omega) _, ?_, (HN.out.old.trans (HB.out.mono HN.out.old.size)).setCell (p := ⟨w.heap.size + 1 + 1 + 1, 0, none⟩) (by simp <;> omega) _⟩
            exact d3.set_ 0 (.int .i64 ((d : Int) + 1))
  case done =>
    rintro D ys W hD hys ⟨st, kept, d, N⟩ hK
    have HN := hid N
    have HK := hid hK
    have HF : Hid (normal (L s) = finish st) := hid (by
      unfold normal
      rw [← hys, N.took])
    have hdl : d ≤ 901 := by
      have h1 := N.few
      have h2 := congrArg List.length hys
      have h3 := pieces_length (L s)
      rw [L_length] at h3
      rw [List.length_map] at h2
      omega
    have HZ : Hid (∀ y ∈ kept, y.size ≤ 1000) := hid (fun y hy => by
      rcases N.mem y hy with rfl | hy
      · exact Nat.zero_le _
      · have h1 : L y ∈ pieces (L s) := by rw [← hys]; exact List.mem_map_of_mem hy
        have h2 := piece_length _ _ h1
        rw [L_length, L_length] at h2
        omega)
    have c0 := N.r0.cell 0
    have f0 := N.r0.frozen 0
    have c1 := N.r1.cell 0
    have f1 := N.r1.frozen 0
    have c3 := N.r3.cell 0
    clear hys N
    by_cases h0 : d = 0
    · subst h0
      have HR : Hid (normal (L s) = ([], 13)) := hid (by rw [HF.out, List.eq_nil_of_length_eq_zero HN.out.deep]; rfl)
      clear hK
      gi_wp2
      obtain ⟨hK', k0, k1⟩ := norm_ends HN.out.r0 HN.out.r1 HK.out (.string ⟨#[]⟩) (.int .i64 13)
      refine ⟨by simp, .inl ⟨_, _, rfl, run_takeDeferred hK', ?_⟩⟩
      refine ⟨.tuple #[.string ⟨#[]⟩, .int .i64 13], ?_, norms_mk HR.out ⟨#[]⟩ rfl rfl (((HN.out.old.setCell (p := ⟨w.heap.size, 0, none⟩) (by simp) _).setCell (p := ⟨w.heap.size + 1, 0, none⟩) (by simp) _).trans (belowK_b (w := w) (Nat.le_refl _) _ D _ _ (by simp at hD; omega) hK' rfl rfl))⟩
      simp [results, Try.f11, go_sem, k0, k1]
    · have e0 : ((d : Int) == 0) = false := by simpa using h0
      have hne : st ≠ [] := by rintro rfl; exact h0 HN.out.deep.symm
      by_cases h8 : 8 < d
      · have HR : Hid (normal (L s) = ([], 31)) := hid (by rw [HF.out]; unfold finish; rw [if_neg hne, if_pos (by rw [HN.out.deep]; exact h8)])
        clear hK hne h0
        gi_wp2
        obtain ⟨hK', k0, k1⟩ := norm_ends HN.out.r0 HN.out.r1 HK.out (.string ⟨#[]⟩) (.int .i64 31)
        refine ⟨by simp, .inl ⟨_, _, rfl, run_takeDeferred hK', ?_⟩⟩
        refine ⟨.tuple #[.string ⟨#[]⟩, .int .i64 31], ?_, norms_mk HR.out ⟨#[]⟩ rfl rfl (((HN.out.old.setCell (p := ⟨w.heap.size, 0, none⟩) (by simp) _).setCell (p := ⟨w.heap.size + 1, 0, none⟩) (by simp) _).trans (belowK_b (w := w) (Nat.le_refl _) _ D _ _ (by simp at hD; omega) hK' rfl rfl))⟩
        simp [results, Try.f11, go_sem, k0, k1]
      · have hst : (kept.take d).map L = st := by
          apply List.ext_getElem
          · rw [List.length_map, List.length_take, HN.out.eight, HN.out.deep]; omega
          · intro j h1 h2
            simp only [List.getElem_map, List.getElem_take]
            exact HN.out.same j _ h2
        have HST := hid hst
        have HL : Hid ((kept.take d).length = d) := hid (by rw [List.length_take, HN.out.eight]; omega)
        have HZ2 : Hid (∀ y ∈ kept.take d, y.size ≤ 1000) := hid (fun y hy => HZ.out y (List.mem_of_mem_take hy))
        have HV : Hid (Vals W (some ⟨w.heap.size + 1 + 1, 0, none⟩) (strs (kept.take d))) := hid (by
          rw [← strs_take]
          refine Vals.take (fun j u hu => ⟨_, _, rfl, HN.out.r2.lt, ?_⟩) d
          rw [Nat.zero_add, HN.out.r2.cell j]
          simpa using hu)
        clear hst hK
        gi_wp2_with fail
        refine ⟨trivial, ?_⟩
        refine (callsIn_wide.2 (join_any _ d 8 (kept.take d) _ HL.out (by omega) (by omega) HZ2.out HV.out)).mono ?_
        rintro e w1 ⟨r, rfl, hr, hb⟩
        rw [HST.out] at hr
        have d0 := HN.out.r0.below hb HN.out.r0.lt
        have d1 := HN.out.r1.below hb HN.out.r1.lt
        have g0 := d0.cell 0
        have g1 := d1.cell 0
        have q0 := d0.frozen 0
        have q1 := d1.frozen 0
        have HK2 := hid (((keeps_below hb).same D _ HK.out rfl))
        have HO2 := hid (HN.out.old.trans (hb.mono HN.out.old.size))
        have HRR := hid hr
        clear hr hb
        by_cases h64 : 64 < r.size
        · have HR : Hid (normal (L s) = ([], 11)) := hid (by
            rw [HF.out]; unfold finish
            rw [if_neg hne, if_neg (by rw [HN.out.deep]; exact h8), if_pos (by rw [← HRR.out, L_length]; exact h64)])
          clear hne h0
          gi_wp2
          obtain ⟨hK', k0, k1⟩ := norm_ends d0 d1 HK2.out (.string ⟨#[]⟩) (.int .i64 11)
          refine ⟨by simp, .inl ⟨_, _, rfl, run_takeDeferred hK', ?_⟩⟩
          refine ⟨.tuple #[.string ⟨#[]⟩, .int .i64 11], ?_, norms_mk HR.out ⟨#[]⟩ rfl rfl (((HO2.out.setCell (p := ⟨w.heap.size, 0, none⟩) (by simp) _).setCell (p := ⟨w.heap.size + 1, 0, none⟩) (by simp) _).trans (belowK_b (w := w) (Nat.le_refl _) _ D _ _ (by simp at hD; omega) hK' rfl rfl))⟩
          simp [results, Try.f11, go_sem, k0, k1]
        · have HR : Hid (normal (L s) = (join st, 0)) := hid (by
            rw [HF.out]
            exact finish_ok hne (by rw [HN.out.deep]; omega) (by rw [← HRR.out, L_length]; omega))
          clear hne h0
          gi_wp2_with fail
          refine ⟨trivial, ?_⟩
          refine (callsIn_wide.2 (clone_any r _ (by omega))).mono ?_
          rintro e w2 ⟨rfl, hb⟩
          have k0 := d0.below hb d0.lt
          have k1 := d1.below hb d1.lt
          have m0 := k0.cell 0
          have m1 := k1.cell 0
          have n0 := k0.frozen 0
          have n1 := k1.frozen 0
          have HK3 := hid (((keeps_below hb).same D _ HK2.out rfl))
          have HO3 := hid (HO2.out.trans (hb.mono HO2.out.size))
          clear hb
          gi_wp2
          obtain ⟨hK', j0, j1⟩ := norm_ends k0 k1 HK3.out (.string r) (.int .i64 0)
          refine ⟨by simp, .inl ⟨_, _, rfl, run_takeDeferred hK', ?_⟩⟩
          refine ⟨.tuple #[.string r, .int .i64 0], ?_, norms_mk HR.out r HRR.out rfl (((HO3.out.setCell (p := ⟨w.heap.size, 0, none⟩) (by simp) _).setCell (p := ⟨w.heap.size + 1, 0, none⟩) (by simp) _).trans (belowK_b (w := w) (Nat.le_refl _) _ D _ _ (by simp at hD; omega) hK' rfl rfl))⟩
          simp [results, Try.f11, go_sem, j0, j1]
  case stop =>
    rintro D c pre W hD hpre ⟨rfl, ht, b0, b1, hB⟩ hK
    have H : Hid (normal (L s) = ([], 30)) := hid (by
      obtain ⟨t, h⟩ := hpre.2
      unfold normal
      rw [← h, takes_append, ht]; rfl)
    clear hpre ht
    gi_wp2
    refine ⟨by simp, .inl ⟨_, _, rfl, run_takeDeferred hK, ?_⟩⟩
    have h0 := (b0.own (grownBy_putObj' _ D (.deferred none)) (B := D) (fun r e => by cases e; exact ⟨Nat.le_refl _, _, hK, rfl⟩)).cell 0
    have h1 := (b1.own (grownBy_putObj' _ D (.deferred none)) (B := D) (fun r e => by cases e; exact ⟨Nat.le_refl _, _, hK, rfl⟩)).cell 0
    refine ⟨.tuple #[.string ⟨#[]⟩, .int .i64 30], ?_, norms_mk H.out ⟨#[]⟩ rfl rfl (hB.trans (belowK_b (w := w) (Nat.le_refl _) W D _ _ (by simp at hD; omega) hK rfl rfl))⟩
    simp [results, Try.f11, go_sem, h0, h1]

theorem normal_any (s : ByteArray) (w : World) (hs : s.size ≤ 900) : Calls Try.prog 11 #[.string s] w (Norms (normal (L s)) w) := normal_walk s w hs

end Go.Proofs.Ytbnhkpceihfalaa
