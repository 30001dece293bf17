/-
  Contracts of strings.Join with a slash, strings.Clone and path.Normal.
-/
import Derived.Test.YtgjbhlianlbflaaGreatPRefA
import Derived.Lib.Join
namespace Go.Proofs.YtgjbhlianlbflaaGreat
open Go.ChangeShapes Go.WideShapes Go.ChangeAt Go.RowKit Go.Shelf
attribute [local go_sem] Oper.semAt_some

theorem lib_join : ∀ xs : List (List UInt8), Lib.join xs [47] = join xs
  | [] => rfl
  | [x] => Lib.join_one x [47]
  | x :: y :: r => by
    have ih := lib_join (y :: r)
    unfold Lib.join at ih ⊢
    rw [join_cons (by simp), ← ih]
    simp [List.intercalate, List.intersperse]

theorem join_le {xs : List ByteArray} (m : Nat) (hm : ∀ x ∈ xs, x.size ≤ m) : (join (xs.map L)).length ≤ xs.length * (m + 1) := by
  have h := joinK_le (xs.map L) m (by intro x hx; obtain ⟨y, hy, rfl⟩ := List.mem_map.1 hx; rw [L_length]; exact hm y hy) (xs.map L).length (Nat.le_refl _)
  rwa [joinK_all, List.length_map] at h

theorem pclone_any (s : ByteArray) (w : World) (hs : s.size ≤ 281474976710656) : Calls Tryz.prog 69 #[.string s] w (Asks (.string s) w) := by
  go_enter Tryz.func69, Tryz.ntmps69
  go_wp2_with fail
  refine (Tryz.stringslite_Clone s _ hs).mono ?_
  rintro e w1 ⟨rfl, hb⟩
  have HB := hid hb
  clear hb
  go_wp2
  go_ret
  exact ⟨rfl, HB.out⟩

def NormEnd (h : Nat) (w : World) (c : Code) (pre : List ByteArray) (W : World) : Prop :=
  c = .ret ∧ takes [] (pre.map L) = none ∧ Blk W h 9 #[.string ⟨#[]⟩] ∧ Blk W (h + 1) 71 #[.int .i64 30] ∧ Below h w W
theorem NormEnd.own (h : Nat) (w : World) (c : Code) (B : Nat) (hw : h ≤ w.heap.size) (hB : h ≤ B) : OwnFrom B (NormEnd h w c) := fun _ _ _ _ hs hg hr =>
  ⟨hs.1, hs.2.1, hs.2.2.1.own hg hr, hs.2.2.2.1.own hg hr, below_own hs.2.2.2.2 hw hB hg hr⟩

theorem took_snoc {pre : List ByteArray} {st : List (List UInt8)} (h : takes [] (pre.map L) = some st) (x : ByteArray) : takes [] ((pre ++ [x]).map L) = take1 st (L x) := by
  rw [List.map_append, List.map_singleton, takes_snoc, h]; rfl
theorem mem_snoc {kept pre : List ByteArray} (h : ∀ y ∈ kept, y = ⟨#[]⟩ ∨ y ∈ pre) (x : ByteArray) : ∀ y ∈ kept, y = ⟨#[]⟩ ∨ y ∈ pre ++ [x] := fun y hy => by
  rcases h y hy with h | h
  · exact .inl h
  · exact .inr (List.mem_append_left _ h)
theorem same_pop {kept : List ByteArray} {st : List (List UInt8)} (h : ∀ (j : Nat) (h1 : j < kept.length) (h2 : j < st.length), L kept[j] = st[j]) :
    ∀ (j : Nat) (h1 : j < kept.length) (h2 : j < st.dropLast.length), L kept[j] = st.dropLast[j] := fun j h1 h2 => by
  rw [List.getElem_dropLast]
  exact h j h1 (by rw [List.length_dropLast] at h2; omega)
theorem same_deep {kept : List ByteArray} {st : List (List UInt8)} (h : ∀ (j : Nat) (h1 : j < kept.length) (h2 : j < st.length), L kept[j] = st[j]) (p : List UInt8) (hd : kept.length ≤ st.length) :
    ∀ (j : Nat) (h1 : j < kept.length) (h2 : j < (st ++ [p]).length), L kept[j] = (st ++ [p])[j] := fun j h1 h2 => by
  rw [List.getElem_append_left (by omega)]
  exact h j h1 (by omega)
theorem same_push {kept : List ByteArray} {st : List (List UInt8)} (h : ∀ (j : Nat) (h1 : j < kept.length) (h2 : j < st.length), L kept[j] = st[j]) (x : ByteArray) (d : Nat) (hd : st.length = d) (_hlt : d < kept.length) :
    ∀ (j : Nat) (h1 : j < (kept.set d x).length) (h2 : j < (st ++ [L x]).length), L (kept.set d x)[j] = (st ++ [L x])[j] := fun j h1 h2 => by
  subst hd
  rw [List.length_set] at h1
  by_cases hj : j = st.length
  · subst hj; simp
  · rw [List.getElem_set_ne (by omega), List.getElem_append_left (by simp at h2; omega)]
    exact h j h1 (by simp at h2; omega)
theorem strs_set (xs : List ByteArray) (k : Nat) (x : ByteArray) : (strs xs).toArray.setIfInBounds k (.string x) = (strs (xs.set k x)).toArray := by
  simp [strs, List.map_set]

theorem norm_ends {W : World} {h D : Nat} {t0 t1 : TypeId} {u0 u1 : Value} (b0 : Blk W h t0 #[u0]) (b1 : Blk W (h + 1) t1 #[u1]) (hK : W.heap[D]? = some (.deferred (some []))) (v0 v1 : Value) :
    ((W.setCell ⟨h, 0, none⟩ v0).setCell ⟨h + 1, 0, none⟩ v1).heap[D]? = some (.deferred (some [])) ∧
    (((W.setCell ⟨h, 0, none⟩ v0).setCell ⟨h + 1, 0, none⟩ v1).putObj D (.deferred none)).cell? ⟨h, 0, none⟩ = some v0 ∧
    (((W.setCell ⟨h, 0, none⟩ v0).setCell ⟨h + 1, 0, none⟩ v1).putObj D (.deferred none)).cell? ⟨h + 1, 0, none⟩ = some v1 := by
  have hK' := ((KeepsOthers.setCell W ⟨h, 0, none⟩ v0).trans (KeepsOthers.setCell _ ⟨h + 1, 0, none⟩ v1)).same D _ hK rfl
  have d0 := ((b0.set_ 0 v0).far (p := ⟨h + 1, 0, none⟩) (by simp) v1).own (grownBy_putObj' _ D (.deferred none)) (B := D) (fun r e => by cases e; exact ⟨Nat.le_refl _, _, hK', rfl⟩)
  have d1 := ((b1.far (p := ⟨h, 0, none⟩) (by simp) v0).set_ 0 v1).own (grownBy_putObj' _ D (.deferred none)) (B := D) (fun r e => by cases e; exact ⟨Nat.le_refl _, _, hK', rfl⟩)
  exact ⟨hK', d0.cell 0, d1.cell 0⟩

end Go.Proofs.YtgjbhlianlbflaaGreat
