/-
  The mathematics of lock paths, on lists of bytes: parts between slashes, normal forms, which path lies above which. No program in it.
-/
namespace Go.Proofs.YtgjbhlianlbflaaGreat
def letter (c : UInt8) : Bool := (97 ≤ c && c ≤ 122) || (48 ≤ c && c ≤ 57) || c == 45 || c == 95
def pieces : List UInt8 → List (List UInt8)
  | [] => [[]]
  | c :: l => if c = 47 then [] :: pieces l else (c :: (pieces l).headD []) :: (pieces l).tail
def join : List (List UInt8) → List UInt8
  | [] => []
  | [x] => x
  | x :: y :: r => x ++ 47 :: join (y :: r)
def isPart (x : List UInt8) : Bool := (!x.isEmpty) && x.all letter
def take1 (l : List (List UInt8)) (p : List UInt8) : Option (List (List UInt8)) :=
  if p = [] ∨ p = [46] then some l
  else if p = [46, 46] then (if l = [] then none else some l.dropLast)
  else if p.all letter then some (l ++ [p]) else none
def takes (l : List (List UInt8)) : List (List UInt8) → Option (List (List UInt8))
  | [] => some l
  | p :: ps => match take1 l p with
    | none => none
    | some l' => takes l' ps
def finish (l : List (List UInt8)) : List UInt8 × Nat :=
  if l = [] then ([], 13) else if 8 < l.length then ([], 31) else if 64 < (join l).length then ([], 11) else (join l, 0)
def normal (s : List UInt8) : List UInt8 × Nat :=
  match takes [] (pieces s) with
  | none => ([], 30)
  | some l => finish l
def right (s : List UInt8) : Bool := decide (s.length ≤ 64) && (pieces s).all isPart && decide ((pieces s).length ≤ 8)
def parts (s : List UInt8) : List (List UInt8) := if right s then pieces s else []
def above (p q : List UInt8) : Bool := right p && right q && (pieces p).isPrefixOf (pieces q)
def overlap (p q : List UInt8) : Bool := above p q || above q p
theorem pieces_ne (l : List UInt8) : pieces l ≠ [] := by
  cases l with
  | nil => simp [pieces]
  | cons c l => unfold pieces; split <;> simp
theorem pieces_cons_ne {c : UInt8} {l : List UInt8} {x : List UInt8} {r : List (List UInt8)} (hc : c ≠ 47) (h : pieces l = x :: r) : pieces (c :: l) = (c :: x) :: r := by
  rw [pieces, if_neg hc, h]; rfl
theorem pieces_sl (l : List UInt8) : pieces (47 :: l) = [] :: pieces l := by rw [pieces, if_pos rfl]
theorem join_cons {x : List UInt8} {r : List (List UInt8)} (h : r ≠ []) : join (x :: r) = x ++ 47 :: join r := by
  cases r with
  | nil => exact absurd rfl h
  | cons y r => rfl
theorem join_one (x : List UInt8) : join [x] = x := rfl
theorem join_head (c : UInt8) (x : List UInt8) (r : List (List UInt8)) : join ((c :: x) :: r) = c :: join (x :: r) := by
  cases r with
  | nil => rfl
  | cons y r => rfl
theorem join_pieces (l : List UInt8) : join (pieces l) = l := by
  induction l with
  | nil => rfl
  | cons c l ih =>
    by_cases hc : c = 47
    · subst hc
      rw [pieces_sl, join_cons (pieces_ne l), ih]; rfl
    · cases h : pieces l with
      | nil => exact absurd h (pieces_ne l)
      | cons x r =>
        rw [pieces_cons_ne hc h, join_head, ← h, ih]
def clean (x : List UInt8) : Prop := ∀ c ∈ x, c ≠ 47
theorem pieces_one {x : List UInt8} (h : clean x) : pieces x = [x] := by
  induction x with
  | nil => rfl
  | cons c x ih => exact pieces_cons_ne (h c (by simp)) (ih (fun d hd => h d (by simp [hd])))
theorem pieces_mid (a b : List UInt8) : pieces (a ++ 47 :: b) = pieces a ++ pieces b := by
  induction a with
  | nil => exact pieces_sl b
  | cons c a ih =>
    by_cases hc : c = 47
    · subst hc
      rw [List.cons_append, pieces_sl, pieces_sl, ih]; rfl
    · cases h : pieces a with
      | nil => exact absurd h (pieces_ne a)
      | cons x r =>
        rw [pieces_cons_ne hc h, List.cons_append, pieces_cons_ne hc (x := x) (r := r ++ pieces b) (by rw [ih, h]; rfl)]
        rfl
theorem pieces_join : ∀ {xs : List (List UInt8)}, xs ≠ [] → (∀ x ∈ xs, clean x) → pieces (join xs) = xs
  | [], h, _ => absurd rfl h
  | [x], _, hc => pieces_one (hc x (by simp))
  | x :: y :: r, _, hc => by
    rw [join_cons (by simp), pieces_mid, pieces_one (hc x (by simp)), pieces_join (by simp) (fun z hz => hc z (by simp [hz]))]
    rfl
theorem join_append {a b : List (List UInt8)} (ha : a ≠ []) (hb : b ≠ []) : join (a ++ b) = join a ++ 47 :: join b := by
  induction a with
  | nil => exact absurd rfl ha
  | cons x a ih =>
    cases a with
    | nil => rw [List.cons_append, List.nil_append, join_cons hb]; rfl
    | cons y a =>
      rw [List.cons_append, join_cons (by simp), join_cons (by simp), ih (by simp)]
      simp
theorem pieces_length (l : List UInt8) : (pieces l).length ≤ l.length + 1 := by
  induction l with
  | nil => simp [pieces]
  | cons c l ih =>
    by_cases hc : c = 47
    · subst hc; rw [pieces_sl]; simp; omega
    · cases h : pieces l with
      | nil => exact absurd h (pieces_ne l)
      | cons x r => rw [pieces_cons_ne hc h]; rw [h] at ih; simp at ih ⊢; omega
theorem piece_length (l : List UInt8) : ∀ x ∈ pieces l, x.length ≤ l.length := by
  induction l with
  | nil => intro x hx; simp [pieces] at hx; subst hx; simp
  | cons c l ih =>
    by_cases hc : c = 47
    · subst hc
      rw [pieces_sl]
      intro x hx
      rcases List.mem_cons.1 hx with rfl | hx
      · simp
      · have := ih x hx; simp; omega
    · cases h : pieces l with
      | nil => exact absurd h (pieces_ne l)
      | cons y r =>
        rw [pieces_cons_ne hc h]
        rw [h] at ih
        intro x hx
        rcases List.mem_cons.1 hx with rfl | hx
        · have := ih y (by simp); simp; omega
        · have := ih x (by simp [hx]); simp; omega
theorem letter_ne47 {c : UInt8} (h : letter c = true) : c ≠ 47 := by rintro rfl; exact absurd h (by decide)
theorem letter_ne46 {c : UInt8} (h : letter c = true) : c ≠ 46 := by rintro rfl; exact absurd h (by decide)
theorem isPart_iff {x : List UInt8} : isPart x = true ↔ x ≠ [] ∧ x.all letter = true := by
  cases x <;> simp [isPart]
theorem isPart_clean {x : List UInt8} (h : isPart x = true) : clean x := fun c hc =>
  letter_ne47 (List.all_eq_true.1 (isPart_iff.1 h).2 c hc)
theorem take1_part {l : List (List UInt8)} {p : List UInt8} (h : isPart p = true) : take1 l p = some (l ++ [p]) := by
  obtain ⟨h1, h2⟩ := isPart_iff.1 h
  have hd : ∀ c ∈ p, c ≠ 46 := fun c hc => letter_ne46 (List.all_eq_true.1 h2 c hc)
  unfold take1
  rw [if_neg, if_neg, if_pos h2]
  · rintro rfl; exact hd 46 (by simp) rfl
  · rintro (rfl | rfl)
    · exact h1 rfl
    · exact hd 46 (by simp) rfl
theorem take1_none {l : List (List UInt8)} {p : List UInt8} (h : p = [] ∨ p = [46]) : take1 l p = some l := by unfold take1; rw [if_pos h]
theorem take1_up {l : List (List UInt8)} : take1 l [46, 46] = if l = [] then none else some l.dropLast := by
  unfold take1; rw [if_neg (by decide), if_pos rfl]
theorem take1_bad {l : List (List UInt8)} {p : List UInt8} (h1 : ¬ (p = [] ∨ p = [46])) (h2 : p ≠ [46, 46]) (h3 : isPart p = false) : take1 l p = none := by
  unfold take1
  rw [if_neg h1, if_neg h2, if_neg]
  intro h
  have : isPart p = true := isPart_iff.2 ⟨fun e => h1 (.inl e), h⟩
  rw [this] at h3; cases h3
theorem takes_parts {l xs : List (List UInt8)} (h : ∀ x ∈ xs, isPart x = true) : takes l xs = some (l ++ xs) := by
  induction xs generalizing l with
  | nil => simp [takes]
  | cons x xs ih =>
    simp only [takes]
    rw [take1_part (h x (by simp))]
    show takes (l ++ [x]) xs = _
    rw [ih (fun y hy => h y (by simp [hy]))]
    simp
theorem take1_keeps {l l' : List (List UInt8)} {p : List UInt8} (h : take1 l p = some l') (hl : ∀ x ∈ l, isPart x = true) : ∀ x ∈ l', isPart x = true := by
  unfold take1 at h
  split at h
  · injection h with h; subst h; exact hl
  · rename_i hn
    split at h
    · split at h
      · cases h
      · injection h with h; subst h
        intro x hx
        exact hl x (List.dropLast_subset _ hx)
    · split at h
      · rename_i ha
        injection h with h; subst h
        intro x hx
        rcases List.mem_append.1 hx with hx | hx
        · exact hl x hx
        · simp at hx; subst hx
          exact isPart_iff.2 ⟨fun e => hn (.inl e), ha⟩
      · cases h
theorem takes_keeps {l l' ps : List (List UInt8)} (h : takes l ps = some l') (hl : ∀ x ∈ l, isPart x = true) : ∀ x ∈ l', isPart x = true := by
  induction ps generalizing l with
  | nil => simp only [takes] at h; injection h with h; subst h; exact hl
  | cons p ps ih =>
    simp only [takes] at h
    cases h1 : take1 l p with
    | none => rw [h1] at h; cases h
    | some l1 => rw [h1] at h; exact ih h (take1_keeps h1 hl)
theorem take1_mem {l l' : List (List UInt8)} {p : List UInt8} (h : take1 l p = some l') : ∀ x ∈ l', x ∈ l ∨ x = p := by
  unfold take1 at h
  split at h
  · injection h with h; subst h; exact fun x hx => .inl hx
  · split at h
    · split at h
      · cases h
      · injection h with h; subst h
        exact fun x hx => .inl (List.dropLast_subset _ hx)
    · split at h
      · injection h with h; subst h
        intro x hx
        rcases List.mem_append.1 hx with hx | hx
        · exact .inl hx
        · simp at hx; exact .inr hx
      · cases h
theorem takes_mem {l l' ps : List (List UInt8)} (h : takes l ps = some l') : ∀ x ∈ l', x ∈ l ∨ x ∈ ps := by
  induction ps generalizing l with
  | nil => simp only [takes] at h; injection h with h; subst h; exact fun x hx => .inl hx
  | cons p ps ih =>
    simp only [takes] at h
    cases h1 : take1 l p with
    | none => rw [h1] at h; cases h
    | some l1 =>
      rw [h1] at h
      intro x hx
      rcases ih h x hx with hx | hx
      · rcases take1_mem h1 x hx with hx | rfl
        · exact .inl hx
        · exact .inr (by simp)
      · exact .inr (by simp [hx])
theorem right_iff {s : List UInt8} : right s = true ↔ s.length ≤ 64 ∧ (∀ x ∈ pieces s, isPart x = true) ∧ (pieces s).length ≤ 8 := by
  simp [right, and_assoc]
theorem finish_ok {l : List (List UInt8)} (h0 : l ≠ []) (h8 : l.length ≤ 8) (h64 : (join l).length ≤ 64) : finish l = (join l, 0) := by
  unfold finish; rw [if_neg h0, if_neg (by omega), if_neg (by omega)]
theorem finish_inv {l : List (List UInt8)} (h : (finish l).2 = 0) : l ≠ [] ∧ l.length ≤ 8 ∧ (join l).length ≤ 64 ∧ finish l = (join l, 0) := by
  unfold finish at h ⊢
  by_cases h0 : l = []
  · rw [if_pos h0] at h; cases h
  · rw [if_neg h0] at h ⊢
    by_cases h8 : 8 < l.length
    · rw [if_pos h8] at h; cases h
    · rw [if_neg h8] at h ⊢
      by_cases h64 : 64 < (join l).length
      · rw [if_pos h64] at h; cases h
      · rw [if_neg h64]
        exact ⟨h0, by omega, by omega, rfl⟩
theorem normal_parts {s : List UInt8} {xs : List (List UInt8)} (h : ∀ x ∈ xs, isPart x = true) (hs : pieces s = xs) : normal s = finish xs := by
  unfold normal
  rw [hs, takes_parts h]
  rfl
theorem normal_right {s : List UInt8} (h : right s = true) : normal s = (s, 0) := by
  obtain ⟨h1, h2, h3⟩ := right_iff.1 h
  rw [normal_parts h2 rfl, finish_ok (pieces_ne s) h3 (by rw [join_pieces]; exact h1), join_pieces]
theorem right_normal {s : List UInt8} (h : (normal s).2 = 0) : right (normal s).1 = true := by
  unfold normal at h ⊢
  cases ht : takes [] (pieces s) with
  | none => rw [ht] at h; cases h
  | some l =>
    rw [ht] at h
    have h : (finish l).2 = 0 := h
    obtain ⟨h0, h8, h64, he⟩ := finish_inv h
    have hp : ∀ x ∈ l, isPart x = true := takes_keeps ht (fun x hx => by cases hx)
    show right (finish l).1 = true
    rw [he]
    have hj : pieces (join l) = l := pieces_join h0 (fun x hx => isPart_clean (hp x hx))
    exact right_iff.2 ⟨h64, by rw [hj]; exact hp, by rw [hj]; exact h8⟩
theorem right_eq (s : List UInt8) : right s = decide (normal s = (s, 0)) := by
  rw [Bool.eq_iff_iff, decide_eq_true_iff]
  constructor
  · exact normal_right
  · intro h
    have := right_normal (s := s) (by rw [h])
    rwa [h] at this
theorem parts_right {s : List UInt8} (h : right s = true) : parts s = pieces s := by unfold parts; rw [if_pos h]
theorem parts_wrong {s : List UInt8} (h : right s = false) : parts s = [] := by unfold parts; rw [if_neg (by rw [h]; decide)]
theorem prefix_pieces {p q : List UInt8} : pieces p <+: pieces q ↔ q = p ∨ ∃ r, q = p ++ 47 :: r := by
  constructor
  · rintro ⟨t, ht⟩
    cases t with
    | nil =>
      rw [List.append_nil] at ht
      exact .inl (by rw [← join_pieces q, ← ht, join_pieces])
    | cons x t =>
      refine .inr ⟨join (x :: t), ?_⟩
      rw [← join_pieces q, ← ht, join_append (pieces_ne p) (by simp), join_pieces]
  · rintro (rfl | ⟨r, rfl⟩)
    · exact List.prefix_refl _
    · rw [pieces_mid]; exact List.prefix_append _ _
theorem right_front {p r : List UInt8} (h : right (p ++ 47 :: r) = true) : right p = true := by
  obtain ⟨h1, h2, h3⟩ := right_iff.1 h
  rw [pieces_mid] at h2 h3
  simp only [List.length_append, List.length_cons] at h1 h3
  exact right_iff.2 ⟨by omega, fun x hx => h2 x (List.mem_append_left _ hx), by omega⟩
theorem above_iff {p q : List UInt8} : above p q = true ↔ right q = true ∧ (q = p ∨ ∃ r, q = p ++ 47 :: r) := by
  unfold above
  simp only [Bool.and_eq_true, List.isPrefixOf_iff_prefix]
  rw [prefix_pieces]
  constructor
  · rintro ⟨⟨_, h2⟩, h3⟩; exact ⟨h2, h3⟩
  · rintro ⟨h2, h3⟩
    refine ⟨⟨?_, h2⟩, h3⟩
    rcases h3 with rfl | ⟨r, rfl⟩
    · exact h2
    · exact right_front h2
def aboveB (p q : List UInt8) : Bool := p.isPrefixOf q && (decide (q.drop p.length = []) || [47].isPrefixOf (q.drop p.length)) && right q
theorem aboveB_eq (p q : List UInt8) : aboveB p q = above p q := by
  rw [Bool.eq_iff_iff, above_iff]
  unfold aboveB
  simp only [Bool.and_eq_true, Bool.or_eq_true, List.isPrefixOf_iff_prefix, decide_eq_true_eq]
  constructor
  · rintro ⟨⟨⟨t, rfl⟩, h⟩, hr⟩
    refine ⟨hr, ?_⟩
    rw [List.drop_left] at h
    rcases h with rfl | ⟨u, rfl⟩
    · exact .inl (by simp)
    · exact .inr ⟨u, rfl⟩
  · rintro ⟨hr, rfl | ⟨r, rfl⟩⟩
    · exact ⟨⟨List.prefix_refl _, .inl (by simp)⟩, hr⟩
    · exact ⟨⟨List.prefix_append _ _, .inr (by rw [List.drop_left]; exact ⟨r, rfl⟩)⟩, hr⟩
end Go.Proofs.YtgjbhlianlbflaaGreat
