/-
  What every law's row owes beside its walk, over any program: arguments read as they did, nothing old has changed, the answer is true. And a slice of numbers that reads as a list, at whatever address.
-/
import Derived.WalkKit
import Derived.ProofKit
import Derived.OpenShut
import Derived.SizedLaws
import Derived.Deep.QuietTactic
import Derived.BigQuiet
import Derived.Laws.AppendOwnNone
import Derived.Test.YtohffiehmmcgbaaGreatDoorRows
import Derived.WalkSpells
import Derived.WalkLawsBesides
import Derived.Laws.RangeAny
import Derived.LoopTactic
import Derived.Lib.ItoaLen
import Derived.Lib.AtoiAll
import Derived.Lib.IndexBytes
import Derived.Laws.BitsAllLaws
import Derived.Laws.Bits64b
import Derived.Lib.ParseIntBCases
import Derived.Maps.AppendAt
import Derived.Maps.RangeWalk
import Derived.Deep.AppendLies
import Derived.Deep.Draws
import Derived.Deep.MidRow
import Derived.IntWalk
import Derived.Deep.RegionHeld3
import Derived.ChangeKeysEq
import Derived.Deep.Cut
import Derived.RegionTactic
import Derived.Laws.StructEq
import Derived.LaidEql
namespace Go.Proofs.YtohffiehmmcgbaaGreatDoor
open Go.ChangeShapes Go.WideShapes Go.ChangeAt Go.RowKit
theorem hid {p : Prop} (h : p) : Hid p := h
theorem ret_num {k : IntKind} {a b : Int} (h : a = b) : Ending.returned (.int k a) = .returned (.int k b) := by rw [h]
theorem ret_bool {a b : Bool} (h : a = b) : Ending.returned (.bool a) = .returned (.bool b) := by rw [h]
def plainTypes (P : Program) (ts : List TypeId) : Bool := ts.all fun t => P.readableRec t && decide (t < P.types.size)
theorem stays_all {H : Type} {enc : TypeId × Value → H} {P : Program} (hl : laidOutB P = true) {W W' : World} (hb : Below W.heap.size W W') :
    ∀ (ts : List TypeId) (vs : List Value) (ds : List (DataW H)) (ps : List MemPlace), plainTypes P ts = true →
      DataW.TrodAll enc P W 0 (fun _ => true) true ts vs ds ps → (∀ x ∈ ps, x.block < W.heap.size) →
      DataW.TrodAll enc P W' 0 (fun b => decide (b < W.heap.size)) true ts vs ds ps := by
  intro ts
  induction ts with
  | nil =>
    intro vs ds ps _ h _
    obtain ⟨rfl, rfl, rfl⟩ := trodAll_nil h
    rfl
  | cons t ts ih =>
    intro vs ds ps hr h hlt
    obtain ⟨v, vs', d, ds', p, q, rfl, rfl, rfl, h1, h2⟩ := trodAll_cons h
    simp only [plainTypes, List.all_cons, Bool.and_eq_true, decide_eq_true_eq] at hr
    exact trodAll_cons_mk (Below.trod hl hr.1.1 hr.1.2 h1 hb (fun x hx => hlt x (List.mem_append_left _ hx)))
      (ih vs' ds' q hr.2 h2 (fun x hx => hlt x (List.mem_append_right _ hx)))
theorem law_post {H : Type} {enc : TypeId × Value → H} {P : Program} (hl : laidOutB P = true) {f : Func} {s : ChangeSpec} {W W' : World} {args : Array Value} {ds gs : List (DataW H)} {before : List MemPlace} {tb : TypeId}
    (hW : DataW.Whole enc P f.params.toList s.vars false W args.toList ds gs before) (hr : plainTypes P f.params.toList = true) (hv : s.vars = []) (hrt : f.resultTypes = #[tb]) (htb : P.underlying tb = some .bool)
    (hspec : s.fn H (ds ++ gs) = { results := [.lit (.bool true)], args := ds }) (hb : Below W.heap.size W W') :
    s.post enc P f false true false false W args (.bool true) W' := by
  have hW' := hW
  obtain ⟨p, q, hA, hV, rfl, _, _⟩ := hW
  have hlt : ∀ x ∈ p ++ q, x.block < W.heap.size := fun x hx => by simpa using hW'.lt x hx
  rw [hv] at hV
  obtain ⟨rfl, rfl⟩ := trodVars_none hV
  refine ⟨ds, [], p ++ [], [] ++ [], p, [], hW', ?_, ?_, ?_, hb.frame _, fun h => by cases h⟩
  · rw [hspec, hrt]
    exact trodAll_mk1 (shut_bool htb _)
  · rw [hspec]
    exact stays_all hl hb _ _ _ _ hr hA (fun x hx => hlt x (List.mem_append_left _ hx))
  · rw [hspec, hv]
    rfl
theorem below_on {a b c : World} (h1 : Below a.heap.size a b) (h2 : Below b.heap.size b c) : Below a.heap.size a c := h1.trans (h2.mono h1.size)
theorem below_drew {B : Nat} {a w : World} (h : Below B a w) : Below B a w.drew := ⟨h.os, h.tape, h.output, h.size, h.block⟩
def Sees (k : IntKind) (w : World) (A : Option Addr) (l : List Nat) : Prop :=
  ∀ (j x : Nat), l[j]? = some x → ∃ b o, A = some ⟨b, o, none⟩ ∧ b < w.heap.size ∧ w.cell? ⟨b, o + j, none⟩ = some (.int k (x : Int))
theorem Sees.below {k : IntKind} {w w' : World} {A : Option Addr} {l : List Nat} (h : Sees k w A l) (hb : Below w.heap.size w w') : Sees k w' A l := by
  intro j x hj
  obtain ⟨b, o, hA, hlt, hc⟩ := h j x hj
  exact ⟨b, o, hA, Nat.lt_of_lt_of_le hlt hb.size, (hb.cell (by exact hlt)).trans hc⟩
theorem Sees.drewN {k : IntKind} {w : World} {A : Option Addr} {l : List Nat} (h : Sees k w A l) (n : Nat) : Sees k (w.drewN n) A l := h
theorem Sees.alloc_ {k : IntKind} {w : World} {A : Option Addr} {l : List Nat} (h : Sees k w A l) (o : Obj) : Sees k (w.alloc o) A l := h.below ((Below.refl _ _).alloc (Nat.le_refl _) o)
theorem Sees.drew_ {k : IntKind} {w : World} {A : Option Addr} {l : List Nat} (h : Sees k w A l) : Sees k w.drew A l := h
theorem Sees.nil (k : IntKind) (w : World) (A : Option Addr) : Sees k w A [] := fun j x h => by simp at h
theorem Sees.of_own {k : IntKind} {w : World} {base n cap : Nat} {A : Option Addr} {l : List Nat} {E : TypeId} (h : w.ownsRow base E 1 (.slice A n cap) n (l.map fun x : Nat => Value.int k (x : Int))) : Sees k w A l := by
  intro j x hj
  have hl : l.length = n := by have := h.1; simpa using this
  have hjn : j < l.length := (List.getElem?_eq_some_iff.1 hj).1
  rcases h.2 with ⟨_, h0⟩ | ⟨g, cap', cur, hv, _, hg, _⟩
  · omega
  · injection hv with h1 h2 h3
    subst h1; subst h3
    refine ⟨g, 0, rfl, (Array.getElem?_eq_some_iff.1 hg).1, ?_⟩
    rw [Nat.zero_add, h.cellAt j (by omega)]
    simp [hj]
theorem Sees.rest {k : IntKind} {w : World} {A : Option Addr} {l : List Nat} (h : Sees k w A l) {b o i : Nat} (hA : A = some ⟨b, o, none⟩) : Sees k w (some ⟨b, o + i, none⟩) (l.drop i) := by
  intro j x hj
  rw [List.getElem?_drop] at hj
  obtain ⟨b', o', hA', hlt, hc⟩ := h _ x hj
  rw [hA] at hA'
  injection hA' with h1
  injection h1 with h2 h3
  subst h2; subst h3
  exact ⟨b, o + i, rfl, hlt, by rw [Nat.add_assoc]; exact hc⟩
theorem Sees.take {k : IntKind} {w : World} {A : Option Addr} {l : List Nat} (h : Sees k w A l) (i : Nat) : Sees k w A (l.take i) := by
  intro j x hj
  refine h j x ?_
  rw [List.getElem?_take] at hj
  split at hj
  · exact hj
  · cases hj
theorem run_build_none {P : Program} (w : World) (t e : TypeId) (ht : P.underlying t = some (.slice e)) (i : TypeInfo) (hi : P.info? e = some i) :
    (Instr.buildSlice t 0 #[]).run P w = .ok (.slice (some ⟨w.heap.size, 0, none⟩) 0 0) (w.alloc (.cells #[] e)) := by
  have e0 : (Array.map (fun _ : Nat => (default : Value)) (Array.range 0)) = #[] := by simp
  simp [Instr.buildSlice, run_underlying ht, sizeOf, typeInfo, hi, Instr.fill]
  rw [e0]
  rfl
theorem wpList_build_none {P : Program} {w : World} {ops : Array Oper} {rest : List Oper} {o : Oper} {a : Act} {Q : Exit → Act → World → Prop} (hgd : o.guard = none) (t e : TypeId)
    (ho : o.op = .buildSlice t 0 #[]) (ht : P.underlying t = some (.slice e)) (i : TypeInfo) (hi : P.info? e = some i) (base : Nat) (hb : base ≤ w.heap.size)
    (h : ∀ s w', w'.ownsRow base e 1 s 0 [] → Below w.heap.size w w' → wpList P ops Q rest (a.put o.dst s) w') : wpList P ops Q (o :: rest) a w := by
  refine wpList_plain hgd fun K hK => ?_
  have hr := run_build_none w t e ht i hi
  unfold Oper.wp
  simp [execOp, ho, hr, Result.andThen]
  exact hK _ _ (h _ _ (World.ownsRow_lit w #[] 0 hb (by decide) rfl) ((Below.refl _ _).alloc (Nat.le_refl _) _))
theorem wpList_append_sees {P : Program} {w : World} {ops : Array Oper} {rest : List Oper} {o : Oper} {a : Act} {Q : Exit → Act → World → Prop} (hgd : o.guard = none) (s x : Operand) (t : TypeId)
    (ho : o.op = .call { callee := .builtin .append, args := #[s, x], argTypes := #[t, t] })
    (base : Nat) (e : TypeId) (i : TypeInfo) (z : Value) (bytes : Nat) (ht : P.underlying t = some (.slice e)) (hi : P.info? e = some i) (hz : i.zero = some z) (hsize : i.size = 1) (hby : i.bytes = bytes) (hzs : z.cells.size = 1)
    (v : Value) (n : Nat) (xs : List Value) (hs : a.eval s = v) (hown : w.ownsRow base e 1 v n xs) (k : IntKind) (A : Option Addr) (c : Nat) (l : List Nat) (hx : a.eval x = .slice A l.length c) (hnone : A = none → c = 0) (hS : Sees k w A l)
    (h63 : n + l.length ≤ maxLen) (hbytes : (n + l.length) * bytes ≤ 140737488355328) (hbase : base ≤ w.heap.size)
    (h : ∀ v' w', w'.ownsRow base e 1 v' (n + l.length) (xs ++ l.map fun y : Nat => Value.int k (y : Int)) → w.grownBy w' v.ownBlock → wpList P ops Q rest (a.put o.dst v') w') : wpList P ops Q (o :: rest) a w := by
  cases A with
  | none =>
    have hl : l = [] := by
      cases l with
      | nil => rfl
      | cons y l => obtain ⟨b, o, he, _⟩ := hS 0 y rfl; cases he
    subst hl
    rw [hnone rfl] at hx
    exact wpList_append_own_none hgd s x t ho base e i 1 ht hi v n xs hs hown hx (h v w (by simpa using hown) (World.grownBy.refl w _))
  | some ad =>
    refine wpList_append_own w hgd s x t ho base e i z 1 bytes ht hi hz hsize hby hzs (by decide) v n xs hs hown ad l.length c (l.map fun y : Nat => Value.int k (y : Int)) hx (by simp) ?_ ?_ h63 hbytes hbase (fun v' w' h1 h2 _ => h v' w' h1 h2)
    · intro j u hu
      rw [List.getElem?_map] at hu
      cases hj : l[j]? with
      | none => rw [hj] at hu; cases hu
      | some y =>
        rw [hj] at hu
        obtain ⟨b, off, he, _, hc⟩ := hS j y hj
        injection he with he
        subst he
        rw [add_plain, hc]
        exact hu
    · intro u hu
      obtain ⟨y, _, rfl⟩ := List.mem_map.1 hu
      rfl
theorem own_slice {w : World} {base n : Nat} {e : TypeId} {k : IntKind} {v : Value} {l : List Nat} (h : w.ownsRow base e 1 v n (l.map fun y : Nat => Value.int k (y : Int))) :
    ∃ A c, v = .slice A l.length c ∧ (A = none → c = 0) ∧ l.length ≤ c ∧ Sees k w A l := by
  have hn : l.length = n := by have := h.1; simpa using this
  rcases h.2 with ⟨rfl, h0⟩ | ⟨g, cap, cur, rfl, _, _, hc, _⟩
  · have : l = [] := List.eq_nil_of_length_eq_zero (by omega)
    subst this
    exact ⟨none, 0, rfl, fun _ => rfl, Nat.le_refl _, Sees.nil _ _ _⟩
  · exact ⟨_, cap, by rw [hn], fun h => (by cases h), by omega, Sees.of_own h⟩
theorem own_slice2 {w : World} {base : Nat} {e : TypeId} {k : IntKind} {v : Value} {a b L : List Nat} (hL : L = a ++ b)
    (h : w.ownsRow base e 1 v (a.length + b.length) ((a.map fun y : Nat => Value.int k (y : Int)) ++ b.map fun y : Nat => Value.int k (y : Int))) :
    ∃ A c, v = .slice A L.length c ∧ (A = none → c = 0) ∧ L.length ≤ c ∧ Sees k w A L := by
  subst hL
  rw [← List.map_append] at h
  exact own_slice h
theorem wpList_append_named {P : Program} {w : World} {ops : Array Oper} {rest : List Oper} {o : Oper} {a : Act} {Q : Exit → Act → World → Prop} (hgd : o.guard = none) (s x : Operand) (t : TypeId)
    (ho : o.op = .call { callee := .builtin .append, args := #[s, x], argTypes := #[t, t] })
    (base : Nat) (e : TypeId) (i : TypeInfo) (z : Value) (bytes : Nat) (ht : P.underlying t = some (.slice e)) (hi : P.info? e = some i) (hz : i.zero = some z) (hsize : i.size = 1) (hby : i.bytes = bytes) (hzs : z.cells.size = 1)
    (v : Value) (n : Nat) (xs : List Value) (hs : a.eval s = v) (hown : w.ownsRow base e 1 v n xs) (k : IntKind) (A : Option Addr) (c : Nat) (l : List Nat) (m : Nat) (hm : l.length = m) (hx : a.eval x = .slice A m c) (hnone : A = none → c = 0) (hS : Sees k w A l)
    (h63 : n + m ≤ maxLen) (hbytes : (n + m) * bytes ≤ 140737488355328) (hbase : base ≤ w.heap.size)
    (h : ∀ v' w', w'.ownsRow base e 1 v' (n + m) (xs ++ l.map fun y : Nat => Value.int k (y : Int)) → w.grownBy w' v.ownBlock → wpList P ops Q rest (a.put o.dst v') w') : wpList P ops Q (o :: rest) a w := by
  subst hm
  exact wpList_append_sees hgd s x t ho base e i z bytes ht hi hz hsize hby hzs v n xs hs hown k A c l hx hnone hS h63 hbytes hbase h
end Go.Proofs.YtohffiehmmcgbaaGreatDoor
namespace Go.Proofs.YtohffiehmmcgbaaGreatDoor
def letter (c : UInt8) : Bool := (97 ≤ c && c ≤ 122) || (48 ≤ c && c ≤ 57) || c == 45 || c == 95
def pieces : List UInt8 → List (List UInt8)
  | [] => [[]]
  | c :: l => if c = 47 then [] :: pieces l else (c :: (pieces l).headD []) :: (pieces l).tail
def join : List (List UInt8) → List UInt8
  | [] => []
  | [x] => x
  | x :: y :: r => x ++ 47 :: join (y :: r)
def isPart (x : List UInt8) : Bool := (!x.isEmpty) && x.all letter
def take1 (l : List (List UInt8)) (p : List UInt8) : Option (List (List UInt8)) :=
  if p = [] ∨ p = [46] then some l
  else if p = [46, 46] then (if l = [] then none else some l.dropLast)
  else if p.all letter then some (l ++ [p]) else none
def takes (l : List (List UInt8)) : List (List UInt8) → Option (List (List UInt8))
  | [] => some l
  | p :: ps => match take1 l p with
    | none => none
    | some l' => takes l' ps
def finish (l : List (List UInt8)) : List UInt8 × Nat :=
  if l = [] then ([], 13) else if 8 < l.length then ([], 31) else if 64 < (join l).length then ([], 11) else (join l, 0)
def normal (s : List UInt8) : List UInt8 × Nat :=
  match takes [] (pieces s) with
  | none => ([], 30)
  | some l => finish l
def right (s : List UInt8) : Bool := decide (s.length ≤ 64) && (pieces s).all isPart && decide ((pieces s).length ≤ 8)
def parts (s : List UInt8) : List (List UInt8) := if right s then pieces s else []
theorem pieces_ne (l : List UInt8) : pieces l ≠ [] := by
  cases l with
  | nil => simp [pieces]
  | cons c l => unfold pieces; split <;> simp
theorem pieces_cons_ne {c : UInt8} {l : List UInt8} {x : List UInt8} {r : List (List UInt8)} (hc : c ≠ 47) (h : pieces l = x :: r) : pieces (c :: l) = (c :: x) :: r := by
  rw [pieces, if_neg hc, h]; rfl
theorem pieces_sl (l : List UInt8) : pieces (47 :: l) = [] :: pieces l := by rw [pieces, if_pos rfl]
theorem join_cons {x : List UInt8} {r : List (List UInt8)} (h : r ≠ []) : join (x :: r) = x ++ 47 :: join r := by
  cases r with
  | nil => exact absurd rfl h
  | cons y r => rfl
theorem join_one (x : List UInt8) : join [x] = x := rfl
theorem join_head (c : UInt8) (x : List UInt8) (r : List (List UInt8)) : join ((c :: x) :: r) = c :: join (x :: r) := by
  cases r with
  | nil => rfl
  | cons y r => rfl
theorem join_pieces (l : List UInt8) : join (pieces l) = l := by
  induction l with
  | nil => rfl
  | cons c l ih =>
    by_cases hc : c = 47
    · subst hc
      rw [pieces_sl, join_cons (pieces_ne l), ih]; rfl
    · cases h : pieces l with
      | nil => exact absurd h (pieces_ne l)
      | cons x r =>
        rw [pieces_cons_ne hc h, join_head, ← h, ih]
def clean (x : List UInt8) : Prop := ∀ c ∈ x, c ≠ 47
theorem pieces_one {x : List UInt8} (h : clean x) : pieces x = [x] := by
  induction x with
  | nil => rfl
  | cons c x ih => exact pieces_cons_ne (h c (by simp)) (ih (fun d hd => h d (by simp [hd])))
theorem pieces_mid (a b : List UInt8) : pieces (a ++ 47 :: b) = pieces a ++ pieces b := by
  induction a with
  | nil => exact pieces_sl b
  | cons c a ih =>
    by_cases hc : c = 47
    · subst hc
      rw [List.cons_append, pieces_sl, pieces_sl, ih]; rfl
    · cases h : pieces a with
      | nil => exact absurd h (pieces_ne a)
      | cons x r =>
        rw [pieces_cons_ne hc h, List.cons_append, pieces_cons_ne hc (x := x) (r := r ++ pieces b) (by rw [ih, h]; rfl)]
        rfl
theorem pieces_join : ∀ {xs : List (List UInt8)}, xs ≠ [] → (∀ x ∈ xs, clean x) → pieces (join xs) = xs
  | [], h, _ => absurd rfl h
  | [x], _, hc => pieces_one (hc x (by simp))
  | x :: y :: r, _, hc => by
    rw [join_cons (by simp), pieces_mid, pieces_one (hc x (by simp)), pieces_join (by simp) (fun z hz => hc z (by simp [hz]))]
    rfl
theorem join_append {a b : List (List UInt8)} (ha : a ≠ []) (hb : b ≠ []) : join (a ++ b) = join a ++ 47 :: join b := by
  induction a with
  | nil => exact absurd rfl ha
  | cons x a ih =>
    cases a with
    | nil => rw [List.cons_append, List.nil_append, join_cons hb]; rfl
    | cons y a =>
      rw [List.cons_append, join_cons (by simp), join_cons (by simp), ih (by simp)]
      simp
theorem pieces_length (l : List UInt8) : (pieces l).length ≤ l.length + 1 := by
  induction l with
  | nil => simp [pieces]
  | cons c l ih =>
    by_cases hc : c = 47
    · subst hc; rw [pieces_sl]; simp; omega
    · cases h : pieces l with
      | nil => exact absurd h (pieces_ne l)
      | cons x r => rw [pieces_cons_ne hc h]; rw [h] at ih; simp at ih ⊢; omega
theorem piece_length (l : List UInt8) : ∀ x ∈ pieces l, x.length ≤ l.length := by
  induction l with
  | nil => intro x hx; simp [pieces] at hx; subst hx; simp
  | cons c l ih =>
    by_cases hc : c = 47
    · subst hc
      rw [pieces_sl]
      intro x hx
      rcases List.mem_cons.1 hx with rfl | hx
      · simp
      · have := ih x hx; simp; omega
    · cases h : pieces l with
      | nil => exact absurd h (pieces_ne l)
      | cons y r =>
        rw [pieces_cons_ne hc h]
        rw [h] at ih
        intro x hx
        rcases List.mem_cons.1 hx with rfl | hx
        · have := ih y (by simp); simp; omega
        · have := ih x (by simp [hx]); simp; omega
theorem letter_ne47 {c : UInt8} (h : letter c = true) : c ≠ 47 := by rintro rfl; exact absurd h (by decide)
theorem letter_ne46 {c : UInt8} (h : letter c = true) : c ≠ 46 := by rintro rfl; exact absurd h (by decide)
theorem isPart_iff {x : List UInt8} : isPart x = true ↔ x ≠ [] ∧ x.all letter = true := by
  cases x <;> simp [isPart]
theorem isPart_clean {x : List UInt8} (h : isPart x = true) : clean x := fun c hc =>
  letter_ne47 (List.all_eq_true.1 (isPart_iff.1 h).2 c hc)
theorem take1_part {l : List (List UInt8)} {p : List UInt8} (h : isPart p = true) : take1 l p = some (l ++ [p]) := by
  obtain ⟨h1, h2⟩ := isPart_iff.1 h
  have hd : ∀ c ∈ p, c ≠ 46 := fun c hc => letter_ne46 (List.all_eq_true.1 h2 c hc)
  unfold take1
  rw [if_neg, if_neg, if_pos h2]
  · rintro rfl; exact hd 46 (by simp) rfl
  · rintro (rfl | rfl)
    · exact h1 rfl
    · exact hd 46 (by simp) rfl
theorem take1_none {l : List (List UInt8)} {p : List UInt8} (h : p = [] ∨ p = [46]) : take1 l p = some l := by unfold take1; rw [if_pos h]
theorem take1_up {l : List (List UInt8)} : take1 l [46, 46] = if l = [] then none else some l.dropLast := by
  unfold take1; rw [if_neg (by decide), if_pos rfl]
theorem take1_bad {l : List (List UInt8)} {p : List UInt8} (h1 : ¬ (p = [] ∨ p = [46])) (h2 : p ≠ [46, 46]) (h3 : isPart p = false) : take1 l p = none := by
  unfold take1
  rw [if_neg h1, if_neg h2, if_neg]
  intro h
  have : isPart p = true := isPart_iff.2 ⟨fun e => h1 (.inl e), h⟩
  rw [this] at h3; cases h3
theorem takes_parts {l xs : List (List UInt8)} (h : ∀ x ∈ xs, isPart x = true) : takes l xs = some (l ++ xs) := by
  induction xs generalizing l with
  | nil => simp [takes]
  | cons x xs ih =>
    simp only [takes]
    rw [take1_part (h x (by simp))]
    show takes (l ++ [x]) xs = _
    rw [ih (fun y hy => h y (by simp [hy]))]
    simp
theorem take1_keeps {l l' : List (List UInt8)} {p : List UInt8} (h : take1 l p = some l') (hl : ∀ x ∈ l, isPart x = true) : ∀ x ∈ l', isPart x = true := by
  unfold take1 at h
  split at h
  · injection h with h; subst h; exact hl
  · rename_i hn
    split at h
    · split at h
      · cases h
      · injection h with h; subst h
        intro x hx
        exact hl x (List.dropLast_subset _ hx)
    · split at h
      · rename_i ha
        injection h with h; subst h
        intro x hx
        rcases List.mem_append.1 hx with hx | hx
        · exact hl x hx
        · simp at hx; subst hx
          exact isPart_iff.2 ⟨fun e => hn (.inl e), ha⟩
      · cases h
theorem takes_keeps {l l' ps : List (List UInt8)} (h : takes l ps = some l') (hl : ∀ x ∈ l, isPart x = true) : ∀ x ∈ l', isPart x = true := by
  induction ps generalizing l with
  | nil => simp only [takes] at h; injection h with h; subst h; exact hl
  | cons p ps ih =>
    simp only [takes] at h
    cases h1 : take1 l p with
    | none => rw [h1] at h; cases h
    | some l1 => rw [h1] at h; exact ih h (take1_keeps h1 hl)
theorem take1_mem {l l' : List (List UInt8)} {p : List UInt8} (h : take1 l p = some l') : ∀ x ∈ l', x ∈ l ∨ x = p := by
  unfold take1 at h
  split at h
  · injection h with h; subst h; exact fun x hx => .inl hx
  · split at h
    · split at h
      · cases h
      · injection h with h; subst h
        exact fun x hx => .inl (List.dropLast_subset _ hx)
    · split at h
      · injection h with h; subst h
        intro x hx
        rcases List.mem_append.1 hx with hx | hx
        · exact .inl hx
        · simp at hx; exact .inr hx
      · cases h
theorem takes_mem {l l' ps : List (List UInt8)} (h : takes l ps = some l') : ∀ x ∈ l', x ∈ l ∨ x ∈ ps := by
  induction ps generalizing l with
  | nil => simp only [takes] at h; injection h with h; subst h; exact fun x hx => .inl hx
  | cons p ps ih =>
    simp only [takes] at h
    cases h1 : take1 l p with
    | none => rw [h1] at h; cases h
    | some l1 =>
      rw [h1] at h
      intro x hx
      rcases ih h x hx with hx | hx
      · rcases take1_mem h1 x hx with hx | rfl
        · exact .inl hx
        · exact .inr (by simp)
      · exact .inr (by simp [hx])
theorem right_iff {s : List UInt8} : right s = true ↔ s.length ≤ 64 ∧ (∀ x ∈ pieces s, isPart x = true) ∧ (pieces s).length ≤ 8 := by
  simp [right, and_assoc]
theorem finish_ok {l : List (List UInt8)} (h0 : l ≠ []) (h8 : l.length ≤ 8) (h64 : (join l).length ≤ 64) : finish l = (join l, 0) := by
  unfold finish; rw [if_neg h0, if_neg (by omega), if_neg (by omega)]
theorem finish_inv {l : List (List UInt8)} (h : (finish l).2 = 0) : l ≠ [] ∧ l.length ≤ 8 ∧ (join l).length ≤ 64 ∧ finish l = (join l, 0) := by
  unfold finish at h ⊢
  by_cases h0 : l = []
  · rw [if_pos h0] at h; cases h
  · rw [if_neg h0] at h ⊢
    by_cases h8 : 8 < l.length
    · rw [if_pos h8] at h; cases h
    · rw [if_neg h8] at h ⊢
      by_cases h64 : 64 < (join l).length
      · rw [if_pos h64] at h; cases h
      · rw [if_neg h64]
        exact ⟨h0, by omega, by omega, rfl⟩
theorem normal_parts {s : List UInt8} {xs : List (List UInt8)} (h : ∀ x ∈ xs, isPart x = true) (hs : pieces s = xs) : normal s = finish xs := by
  unfold normal
  rw [hs, takes_parts h]
  rfl
theorem normal_right {s : List UInt8} (h : right s = true) : normal s = (s, 0) := by
  obtain ⟨h1, h2, h3⟩ := right_iff.1 h
  rw [normal_parts h2 rfl, finish_ok (pieces_ne s) h3 (by rw [join_pieces]; exact h1), join_pieces]
theorem right_normal {s : List UInt8} (h : (normal s).2 = 0) : right (normal s).1 = true := by
  unfold normal at h ⊢
  cases ht : takes [] (pieces s) with
  | none => rw [ht] at h; cases h
  | some l =>
    rw [ht] at h
    have h : (finish l).2 = 0 := h
    obtain ⟨h0, h8, h64, he⟩ := finish_inv h
    have hp : ∀ x ∈ l, isPart x = true := takes_keeps ht (fun x hx => by cases hx)
    show right (finish l).1 = true
    rw [he]
    have hj : pieces (join l) = l := pieces_join h0 (fun x hx => isPart_clean (hp x hx))
    exact right_iff.2 ⟨h64, by rw [hj]; exact hp, by rw [hj]; exact h8⟩
theorem right_eq (s : List UInt8) : right s = decide (normal s = (s, 0)) := by
  rw [Bool.eq_iff_iff, decide_eq_true_iff]
  constructor
  · exact normal_right
  · intro h
    have := right_normal (s := s) (by rw [h])
    rwa [h] at this
end Go.Proofs.YtohffiehmmcgbaaGreatDoor
namespace Go.Proofs.YtohffiehmmcgbaaGreatDoor
open Go.ChangeShapes Go.WideShapes Go.ChangeAt Go.RowKit
def L (s : ByteArray) : List UInt8 := s.data.toList
theorem L_length (s : ByteArray) : (L s).length = s.size := Array.length_toList
theorem L_inj {s t : ByteArray} : L s = L t ↔ s = t := by
  constructor
  · intro h
    cases s; cases t
    simp only [L] at h
    congr 1
    exact Array.ext' h
  · rintro rfl; rfl
theorem L_get (s : ByteArray) (k : Nat) (h : k < s.size) : (L s)[k]'(by rw [L_length]; exact h) = s[k] := rfl
def letterI (c : Int) : Bool := decide (97 ≤ c ∧ c ≤ 122 ∨ 48 ≤ c ∧ c ≤ 57 ∨ c = 45 ∨ c = 95)
theorem letterI_u8 (c : UInt8) : letterI (c.toNat : Int) = letter c := by
  rw [Bool.eq_iff_iff]
  simp only [letterI, letter, decide_eq_true_eq, Bool.or_eq_true, Bool.and_eq_true, beq_iff_eq, UInt8.le_iff_toNat_le, ← UInt8.toNat_inj]
  simp only [UInt8.reduceToNat]
  omega
theorem letterI_high {c : Int} (h : 128 ≤ c) : letterI c = false := by
  unfold letterI
  rw [decide_eq_false_iff_not]
  omega
set_option maxHeartbeats 400000 in
theorem rune_any (c : Int) (w : World) : Calls Tryz.prog 197 #[.int .i32 c] w fun e w' => e = .returned (.bool (letterI c)) ∧ w = w' := by
  by_cases h1 : 97 ≤ c ∧ c ≤ 122
  · obtain ⟨h1, h2⟩ := h1
    have hh : letterI c = true := by unfold letterI; rw [decide_eq_true_iff]; omega
    have H := hid hh
    clear hh
    go_enter Tryz.func197, Tryz.ntmps197
    go_wp2
    go_ret
    exact ⟨ret_bool H.out.symm, rfl⟩
  · have hs : ((decide (97 ≤ c)) = true ∧ decide (c ≤ 122) = false) ∨ decide (97 ≤ c) = false := by
      by_cases h : 97 ≤ c
      · exact .inl ⟨by simpa using h, by simp; omega⟩
      · exact .inr (by simp; omega)
    by_cases h2 : 48 ≤ c ∧ c ≤ 57
    · obtain ⟨h2, h3⟩ := h2
      have hh : letterI c = true := by unfold letterI; rw [decide_eq_true_iff]; omega
      have H := hid hh
      clear hh
      have hs : decide (97 ≤ c) = false := by simp; omega
      go_enter Tryz.func197, Tryz.ntmps197
      go_wp2
      go_ret
      exact ⟨ret_bool H.out.symm, rfl⟩
    · have ht : (decide (48 ≤ c) = true ∧ decide (c ≤ 57) = false) ∨ decide (48 ≤ c) = false := by
        by_cases h : 48 ≤ c
        · exact .inl ⟨by simpa using h, by simp; omega⟩
        · exact .inr (by simp; omega)
      by_cases h4 : c = 45
      · subst h4
        go_enter Tryz.func197, Tryz.ntmps197
        go_wp2
        go_ret
        exact ⟨rfl, rfl⟩
      · by_cases h5 : c = 95
        · subst h5
          go_enter Tryz.func197, Tryz.ntmps197
          go_wp2
          go_ret
          exact ⟨rfl, rfl⟩
        · have hh : letterI c = false := by unfold letterI; rw [decide_eq_false_iff_not]; omega
          have H := hid hh
          have e4 : (c == 45) = false := by simpa using h4
          have e5 : (c == 95) = false := by simpa using h5
          clear hh h1 h2 h4 h5
          rcases hs with ⟨a1, a2⟩ | a1 <;> rcases ht with ⟨b1, b2⟩ | b1
          all_goals
            go_enter Tryz.func197, Tryz.ntmps197
            go_wp2
            go_ret
            exact ⟨ret_bool H.out.symm, rfl⟩
set_option maxHeartbeats 400000 in
theorem letter_any (c : Int) (w : World) : Calls Tryz.prog 213 #[.int .u8 c] w fun e w' => e = .returned (.bool (letterI c)) ∧ w = w' := by
  by_cases h1 : 97 ≤ c ∧ c ≤ 122
  · obtain ⟨h1, h2⟩ := h1
    have hh : letterI c = true := by unfold letterI; rw [decide_eq_true_iff]; omega
    have H := hid hh
    clear hh
    go_enter Tryz.func213, Tryz.ntmps213
    go_wp2
    go_ret
    exact ⟨ret_bool H.out.symm, rfl⟩
  · have hs : ((decide (97 ≤ c)) = true ∧ decide (c ≤ 122) = false) ∨ decide (97 ≤ c) = false := by
      by_cases h : 97 ≤ c
      · exact .inl ⟨by simpa using h, by simp; omega⟩
      · exact .inr (by simp; omega)
    by_cases h2 : 48 ≤ c ∧ c ≤ 57
    · obtain ⟨h2, h3⟩ := h2
      have hh : letterI c = true := by unfold letterI; rw [decide_eq_true_iff]; omega
      have H := hid hh
      clear hh
      have hs : decide (97 ≤ c) = false := by simp; omega
      go_enter Tryz.func213, Tryz.ntmps213
      go_wp2
      go_ret
      exact ⟨ret_bool H.out.symm, rfl⟩
    · have ht : (decide (48 ≤ c) = true ∧ decide (c ≤ 57) = false) ∨ decide (48 ≤ c) = false := by
        by_cases h : 48 ≤ c
        · exact .inl ⟨by simpa using h, by simp; omega⟩
        · exact .inr (by simp; omega)
      by_cases h4 : c = 45
      · subst h4
        go_enter Tryz.func213, Tryz.ntmps213
        go_wp2
        go_ret
        exact ⟨rfl, rfl⟩
      · by_cases h5 : c = 95
        · subst h5
          go_enter Tryz.func213, Tryz.ntmps213
          go_wp2
          go_ret
          exact ⟨rfl, rfl⟩
        · have hh : letterI c = false := by unfold letterI; rw [decide_eq_false_iff_not]; omega
          have H := hid hh
          have e4 : (c == 45) = false := by simpa using h4
          have e5 : (c == 95) = false := by simpa using h5
          clear hh h1 h2 h4 h5
          rcases hs with ⟨a1, a2⟩ | a1 <;> rcases ht with ⟨b1, b2⟩ | b1
          all_goals
            go_enter Tryz.func213, Tryz.ntmps213
            go_wp2
            go_ret
            exact ⟨ret_bool H.out.symm, rfl⟩
theorem isPart_fail {s : ByteArray} {pos : Nat} (h : pos < s.size) (hl : letter (s[pos]'h) = false) : isPart (L s) = false := by
  rw [← Bool.not_eq_true, isPart_iff]
  rintro ⟨_, h2⟩
  have := List.all_eq_true.1 h2 (s[pos]'h) (by rw [← L_get s pos h]; exact List.getElem_mem _)
  rw [hl] at this; cases this
theorem rune_letter (s : ByteArray) (pos : Nat) (h : pos < s.size) :
    letterI ((Utf8.decode s pos).1 : Int) = letter (s[pos]'h) ∧ (letter (s[pos]'h) = true → (Utf8.decode s pos).2 = 1) := by
  by_cases ha : (s[pos]'h).toNat < 128
  · rw [decode_ascii s pos h ha]
    exact ⟨letterI_u8 _, fun _ => rfl⟩
  · have h1 := decode_high s pos h (by omega)
    have h2 : letter (s[pos]'h) = false := by
      rw [← letterI_u8]
      exact letterI_high (by omega)
    rw [h2, letterI_high (by omega)]
    exact ⟨rfl, fun h => (by cases h)⟩
theorem isPart_all {s : ByteArray} (h : ∀ (j : Nat) (hj : j < s.size), letter (s[j]'hj) = true) : isPart (L s) = !(L s).isEmpty := by
  have : (L s).all letter = true := by
    rw [List.all_eq_true]
    intro x hx
    obtain ⟨j, hj, rfl⟩ := List.getElem_of_mem hx
    rw [L_length] at hj
    exact h j hj
  rw [isPart, this, Bool.and_true]
def IsIter (s : ByteArray) (w w' : World) : Prop := ∃ pos, w' = w.iter s pos
theorem IsIter.below {s : ByteArray} {w w' : World} (h : IsIter s w w') : Below w.heap.size w w' := by
  obtain ⟨pos, rfl⟩ := h
  exact (Below.refl _ _).alloc (Nat.le_refl _) _
set_option maxRecDepth 1000000 in
set_option maxHeartbeats 400000 in
theorem part_iter (s : ByteArray) (w : World) :
    Calls Tryz.prog 175 #[.string s] w fun e w' => e = .returned (.bool (isPart (L s))) ∧ IsIter s w w' := by
  go_enter Tryz.func175, Tryz.ntmps175
  go_wp2
  go_loopw [4] (fun _ w' => ∃ (pos : Nat), w' = w.iter s pos ∧ pos ≤ s.size ∧ Hid (∀ (j : Nat) (hj : j < s.size), j < pos → letter (s[j]'hj) = true)) (fun _ w' => s.size - w'.iterPos w.heap.size)
  case atStart => exact ⟨0, rfl, Nat.zero_le _, hid (fun j _ h => absurd h (Nat.not_lt_zero _))⟩
  case round =>
    obtain ⟨pos, rfl, hle, H⟩ := hrel
    by_cases hp : pos < s.size
    · have hnx : ∀ ty, (Instr.next (.pointer (some ⟨w.heap.size, 0, none⟩)) true ty).run Tryz.prog (w.iter s pos) = _ := fun ty => run_next_any w s pos ty hp
      have hrl := rune_letter s pos hp
      by_cases hl : letter (s[pos]'hp) = true
      · have h1 : letterI ((Utf8.decode s pos).1 : Int) = true := hrl.1.trans hl
        have h2 : Hid ((Utf8.decode s pos).2 = 1) := hid (hrl.2 hl)
        have H1 := hid h1
        clear hrl h1
        go_wp2_with (go_at_call 197; refine (rune_any _ _).mono ?_; rintro e w' ⟨rfl, rfl⟩; rw [H1.out])
        go_roundw
        case rel =>
          refine ⟨pos + 1, by rw [h2.out], by omega, hid (fun j hj hlt => ?_)⟩
          by_cases hjp : j = pos
          · subst hjp; exact hl
          · exact H.out j hj (by omega)
        case measure => simp [h2.out]; omega
      · have hl : letter (s[pos]'hp) = false := by simpa using hl
        have h1 : letterI ((Utf8.decode s pos).1 : Int) = false := hrl.1.trans hl
        have H1 := hid h1
        have HF := hid (isPart_fail hp hl)
        clear hrl h1 hl
        go_wp2_with (go_at_call 197; refine (rune_any _ _).mono ?_; rintro e w' ⟨rfl, rfl⟩; rw [H1.out])
        go_ret
        exact ⟨ret_bool HF.out.symm, _, rfl⟩
    · have hnx : ∀ ty, (Instr.next (.pointer (some ⟨w.heap.size, 0, none⟩)) true ty).run Tryz.prog (w.iter s pos) = _ := fun ty => run_next_end w s pos ty hp
      have HA := hid (isPart_all (s := s) (fun j hj => H.out j hj (by omega)))
      go_wp2
      go_ret
      refine ⟨ret_bool ?_, _, rfl⟩
      rw [HA.out]
      cases s with
      | mk d => cases h : d.toList <;> simp [L, ByteArray.toList_eq, h]
theorem toList_L (s : ByteArray) : s.toList = L s := ByteArray.toList_eq s
def Asks (v : Value) (w : World) (e : Ending) (w' : World) : Prop := e = .returned v ∧ Below w.heap.size w w'
theorem part_any (s : ByteArray) (w : World) : Calls Tryz.prog 175 #[.string s] w (Asks (.bool (isPart (L s))) w) :=
  (part_iter s w).mono fun _ _ ⟨he, hi⟩ => ⟨he, hi.below⟩
end Go.Proofs.YtohffiehmmcgbaaGreatDoor
namespace Go.Proofs.YtohffiehmmcgbaaGreatDoor
open Go.Lib
def Sb (s : ByteArray) : List UInt8 := s.data.toList
theorem Sb_inj {a b : ByteArray} : Sb a = Sb b ↔ a = b := by
  constructor
  · intro h
    unfold Sb at h
    have h2 := Array.toList_inj.1 h
    cases a; cases b; simp_all
  · intro h; rw [h]
theorem Sb_length (s : ByteArray) : (Sb s).length = s.size := by unfold Sb; rw [Array.length_toList]; rfl
theorem Sb_append (s t : ByteArray) : Sb (s ++ t) = Sb s ++ Sb t := by simp [Sb]
theorem Sb_mk (l : List UInt8) : Sb ⟨l.toArray⟩ = l := by simp [Sb]
theorem Sb_eq (a b : ByteArray) : (a.toList == b.toList) = decide (Sb a = Sb b) := by
  rw [ByteArray.toList_eq, ByteArray.toList_eq]
  by_cases h : Sb a = Sb b
  · rw [decide_eq_true h, beq_iff_eq]; exact h
  · rw [decide_eq_false h, beq_eq_false_iff_ne]; exact h
theorem digit_nat (d : Nat) (h : d < 10) : (UInt8.ofNat (48 + d)).toNat = 48 + d := by
  rw [UInt8.toNat_ofNat']; omega
theorem parse_app : ∀ (l r : List UInt8) (acc m : Nat), parseUint10 acc l = .ok m → parseUint10 acc (l ++ r) = parseUint10 m r
  | [], r, acc, m, h => by
    simp only [parseUint10] at h
    injection h with h
    subst h
    rfl
  | c :: l, r, acc, m, h => by
    simp only [List.cons_append, parseUint10] at h ⊢
    split at h
    · rename_i h1
      rw [if_pos h1]
      split at h
      · cases h
      · rename_i h2
        rw [if_neg h2]
        split at h
        · cases h
        · rename_i h3
          rw [if_neg h3]
          exact parse_app l r _ m h
    · cases h
theorem parse_one (acc d : Nat) (hd : d < 10) (h : acc * 10 + d < 18446744073709551616) : parseUint10 acc [UInt8.ofNat (48 + d)] = .ok (acc * 10 + d) := by
  unfold parseUint10
  rw [digit_nat d hd, if_pos (by omega), if_neg (by omega), if_neg (by omega)]
  unfold parseUint10
  rw [show 48 + d - 48 = d by omega]
theorem parse_dec (u : Nat) (h : u < 18446744073709551616) : parseUint10 0 (decDigits u) = .ok u := by
  induction u using Nat.strongRecOn with
  | _ u ih =>
    by_cases h10 : u < 10
    · rw [decDigits, dif_pos h10, parse_one 0 u h10 (by omega)]; simp
    · rw [decDigits, dif_neg h10, parse_app _ _ _ _ (ih (u / 10) (by omega) (by omega))]
      rw [parse_one _ _ (by omega) (by omega)]
      congr 1
      omega
theorem dec_digits (u : Nat) : ∀ c ∈ decDigits u, 48 ≤ c.toNat ∧ c.toNat ≤ 57 := by
  induction u using Nat.strongRecOn with
  | _ u ih =>
    intro c hc
    by_cases h10 : u < 10
    · rw [decDigits, dif_pos h10] at hc
      simp only [List.mem_singleton] at hc
      subst hc
      rw [digit_nat u h10]; omega
    · rw [decDigits, dif_neg h10] at hc
      rcases List.mem_append.1 hc with h | h
      · exact ih (u / 10) (by omega) c h
      · simp only [List.mem_singleton] at h
        subst h
        rw [digit_nat _ (by omega)]; omega
theorem dec_ne (u : Nat) : decDigits u ≠ [] := by
  intro h
  have h1 := decDigits_length u
  rw [h] at h1
  have := nDigits_pos u
  simp at h1
  omega
theorem atoi_itoa (n : Int) (h0 : -9223372036854775808 ≤ n) (h1 : n ≤ 9223372036854775807) : atoiAll (itoa n) = .ok n := by
  by_cases hneg : n < 0
  · obtain ⟨u, rfl⟩ : ∃ u : Nat, n = -(u : Int) := ⟨n.natAbs, by omega⟩
    rw [itoa_neg u (by omega)]
    have hm : parseMag (decDigits u) = .ok u := by unfold parseMag; rw [if_neg (dec_ne u), parse_dec u (by omega)]
    have h45 : (45 : UInt8).toNat = 45 := rfl
    unfold atoiAll
    simp only [h45, or_true, if_true, hm, not_true, false_and, if_false, true_and]
    rw [if_neg (by omega)]
  · obtain ⟨u, rfl⟩ : ∃ u : Nat, n = u := ⟨n.toNat, by omega⟩
    rw [itoa_nonneg]
    have hm : parseMag (decDigits u) = .ok u := by unfold parseMag; rw [if_neg (dec_ne u), parse_dec u (by omega)]
    have hd := dec_digits u
    cases hl : decDigits u with
    | nil => exact absurd hl (dec_ne u)
    | cons c r =>
      rw [hl] at hm hd
      have hc := hd c (by simp)
      unfold atoiAll
      have h43 : ¬ c.toNat = 43 := by omega
      have h45 : ¬ c.toNat = 45 := by omega
      simp only [h43, h45, or_self, if_false, hm, not_false_eq_true, true_and, false_and]
      rw [if_neg (by omega)]
theorem atoi_range {l : List UInt8} {v : Int} (h : atoiAll l = .ok v) : -9223372036854775808 ≤ v ∧ v ≤ 9223372036854775807 := by
  unfold atoiAll at h
  split at h
  · cases h
  · simp only at h
    split at h
    · cases h
    · cases h
    · split at h
      · cases h
      · split at h
        · cases h
        · injection h with h
          subst h
          split <;> omega
def cutP : List UInt8 → List UInt8 × List UInt8
  | [] => ([], [])
  | c :: l => if c = 46 then ([], l) else (c :: (cutP l).1, (cutP l).2)
theorem cutP_app : ∀ (x y : List UInt8), (∀ c ∈ x, c ≠ 46) → cutP (x ++ 46 :: y) = (x, y)
  | [], y, _ => by simp [cutP]
  | c :: x, y, h => by
    have h1 := h c (by simp)
    simp only [List.cons_append, cutP, if_neg h1]
    rw [cutP_app x y (fun d hd => h d (List.mem_cons_of_mem _ hd))]
theorem cut_index : ∀ l : List UInt8, (indexByte l 46 = -1 ∧ cutP l = (l, [])) ∨ ∃ k : Nat, indexByte l 46 = (k : Int) ∧ k < l.length ∧ cutP l = (l.take k, l.drop (k + 1))
  | [] => .inl ⟨rfl, rfl⟩
  | c :: l => by
    by_cases hc : c = 46
    · subst hc
      exact .inr ⟨0, rfl, by simp, rfl⟩
    · have hb : (c == 46) = false := by simpa using hc
      rcases cut_index l with ⟨h1, h2⟩ | ⟨k, h1, h2, h3⟩
      · refine .inl ⟨?_, by simp only [cutP, if_neg hc, h2]⟩
        simp only [indexByte, hb, h1]; decide
      · refine .inr ⟨k + 1, ?_, by simp; omega, by simp only [cutP, if_neg hc, h3]; rfl⟩
        have hk : ((k : Int) == -1) = false := by simp
        simp [indexByte, hb, h1, hk]
theorem cutP_len : ∀ l : List UInt8, (cutP l).1.length ≤ l.length ∧ (cutP l).2.length ≤ l.length
  | [] => ⟨Nat.le_refl _, Nat.le_refl _⟩
  | c :: l => by
    have h := cutP_len l
    unfold cutP
    split
    · exact ⟨by simp, by simp⟩
    · exact ⟨by simp; exact h.1, by simp; omega⟩
def textOf (a b : Int) : List UInt8 := itoa a ++ 46 :: itoa b
def readOf (l : List UInt8) : Option (Int × Int) :=
  match atoiAll (cutP l).1, atoiAll (cutP l).2 with
  | .ok a, .ok b => if textOf a b = l then some (a, b) else none
  | _, _ => none
theorem itoa_dot (n : Int) : ∀ c ∈ itoa n, c ≠ 46 := by
  intro c hc he
  subst he
  unfold itoa at hc
  split at hc
  · rcases List.mem_cons.1 hc with h | h
    · exact absurd h (by decide)
    · have := dec_digits _ _ h
      have h46 : (46 : UInt8).toNat = 46 := rfl
      omega
  · have := dec_digits _ _ hc
    have h46 : (46 : UInt8).toNat = 46 := rfl
    omega
theorem read_text {a b : Int} (ha0 : -9223372036854775808 ≤ a) (ha1 : a ≤ 9223372036854775807) (hb0 : -9223372036854775808 ≤ b) (hb1 : b ≤ 9223372036854775807) : readOf (textOf a b) = some (a, b) := by
  unfold readOf
  rw [show cutP (textOf a b) = (itoa a, itoa b) from cutP_app _ _ (itoa_dot a)]
  simp only [atoi_itoa a ha0 ha1, atoi_itoa b hb0 hb1, if_true]
theorem read_some {l : List UInt8} {a b : Int} (h : readOf l = some (a, b)) : textOf a b = l ∧ (-9223372036854775808 ≤ a ∧ a ≤ 9223372036854775807) ∧ -9223372036854775808 ≤ b ∧ b ≤ 9223372036854775807 := by
  unfold readOf at h
  split at h
  · rename_i x y hx hy
    split at h
    · simp only [Option.some.injEq, Prod.mk.injEq] at h
      obtain ⟨rfl, rfl⟩ := h
      rename_i ht
      exact ⟨ht, atoi_range hx, atoi_range hy⟩
    · cases h
  · cases h
theorem textOf_len {a b : Int} (ha0 : -9223372036854775808 ≤ a) (ha1 : a ≤ 9223372036854775807) (hb0 : -9223372036854775808 ≤ b) (hb1 : b ≤ 9223372036854775807) : (textOf a b).length ≤ 43 := by
  have h1 := itoa_length_le a ha0 ha1
  have h2 := itoa_length_le b hb0 hb1
  unfold textOf
  simp
  omega
theorem dec_small {v : Nat} (h : v < 10) : decDigits v = [UInt8.ofNat (48 + v)] := decDigits_one h
theorem dec_big {v : Nat} (h : ¬ v < 10) : decDigits v = decDigits (v / 10) ++ [UInt8.ofNat (48 + v % 10)] := by rw [decDigits, dif_neg h]
end Go.Proofs.YtohffiehmmcgbaaGreatDoor
namespace Go.Proofs.YtohffiehmmcgbaaGreatDoor
open Go.RowKit
def bv (x : Nat) : Value := .int .u8 (x : Int)
def shortN (v : Nat) : List Nat := if v < 128 then [v] else (v % 128 + 128) :: shortN (v / 128)
termination_by v
decreasing_by omega
theorem shortN_lo {v : Nat} (h : v < 128) : shortN v = [v] := by rw [shortN, if_pos h]
theorem shortN_hi {v : Nat} (h : 128 ≤ v) : shortN v = (v % 128 + 128) :: shortN (v / 128) := by rw [shortN, if_neg (by omega)]
theorem shortN_ne (v : Nat) : shortN v ≠ [] := by
  rw [shortN]; split <;> simp
theorem shortN_pos (v : Nat) : 0 < (shortN v).length := List.length_pos_iff.2 (shortN_ne v)
theorem shortN_len (k : Nat) : ∀ v, v < 128 ^ (k + 1) → (shortN v).length ≤ k + 1 := by
  induction k with
  | zero => intro v h; rw [shortN_lo (by omega)]; simp
  | succ k ih =>
    intro v h
    by_cases hv : v < 128
    · rw [shortN_lo hv]; simp
    · rw [shortN_hi (by omega)]
      have h1 : v / 128 < 128 ^ (k + 1) := Nat.div_lt_of_lt_mul (by rw [Nat.pow_succ] at h; omega)
      have h2 := ih _ h1
      rw [List.length_cons]
      omega
theorem shortN_len10 {v : Nat} (h : v < 18446744073709551616) : (shortN v).length ≤ 10 := shortN_len 9 v (by omega)
theorem shortN_byte (v : Nat) : ∀ x ∈ shortN v, x < 256 := by
  induction v using Nat.strongRecOn with
  | _ v ih =>
    intro x hx
    by_cases hv : v < 128
    · rw [shortN_lo hv] at hx; simp at hx; omega
    · rw [shortN_hi (by omega)] at hx
      rcases List.mem_cons.1 hx with h | h
      · omega
      · exact ih _ (by omega) x h
theorem or128_walk (v : Nat) : bits BinOp.or IntKind.u8 ((v : Int) % 256) 128 = ((v % 128 + 128 : Nat) : Int) := by
  have e1 : (v : Int) % 256 = ((v % 256 : Nat) : Int) := by omega
  rw [e1]
  have h : bits BinOp.or IntKind.u8 ((v % 256 : Nat) : Int) ((128 : Nat) : Int) = _ := u8_or_nat (v % 256) 128 (by omega) (by omega)
  refine Eq.trans h ?_
  congr 1
  have hcases : v / 128 % 2 = 0 ∨ v / 128 % 2 = 1 := by omega
  rcases hcases with hc | hc
  · have : v % 256 = v % 128 := by omega
    rw [this, Nat.or_comm]
    rw [nat_join 7 128 (v % 128) (by decide) (by omega)]
    omega
  · have : v % 256 = 128 + v % 128 := by omega
    rw [this]
    have e := nat_join 7 128 (v % 128) (by decide) (by omega)
    rw [← e, Nat.or_comm 128 (v % 128), Nat.or_assoc, Nat.or_self, Nat.or_comm, e]
    omega
theorem low7_walk (c : Nat) (hc : c < 256) : bits BinOp.andNot IntKind.u8 (c : Int) 128 = ((c % 128 : Nat) : Int) := by
  have h := u8_andNot_nat c 128 hc (by omega)
  rw [show 255 - 128 = 127 from rfl, nat_mask7] at h
  exact h
theorem pow7 (k : Nat) : (128 : Nat) ^ k = 2 ^ (7 * k) := by rw [Nat.pow_mul]
theorem take7_walk (n c k : Nat) (hc : c < 256) (hk : k ≤ 8 ∨ k = 9 ∧ c ≤ 1) (hn : n < 128 ^ k) :
    bits BinOp.or IntKind.u64 (n : Int) (IntKind.u64.wrap (IntKind.u64.wrap (bits BinOp.andNot IntKind.u8 (c : Int) 128) * 2 ^ (7 * k))) = ((n + c % 128 * 128 ^ k : Nat) : Int) ∧
      n + c % 128 * 128 ^ k < 18446744073709551616 ∧ (k ≤ 8 → n + c % 128 * 128 ^ k < 128 ^ (k + 1)) := by
  have e0 : (2 : Int) ^ (7 * k) = ((128 ^ k : Nat) : Int) := by rw [pow7]; simp
  have hbig : c % 128 * 128 ^ k + 128 ^ k ≤ 18446744073709551616 ∧ (k ≤ 8 → c % 128 * 128 ^ k + 128 ^ k ≤ 128 ^ (k + 1)) := by
    have h1 : c % 128 * 128 ^ k + 128 ^ k = (c % 128 + 1) * 128 ^ k := by rw [Nat.add_mul, Nat.one_mul]
    rw [h1]
    have hle : (c % 128 + 1) * 128 ^ k ≤ 128 * 128 ^ k := Nat.mul_le_mul_right _ (by omega)
    have e1 : 128 * 128 ^ k = 128 ^ (k + 1) := by rw [Nat.pow_succ, Nat.mul_comm]
    refine ⟨?_, fun _ => by omega⟩
    rcases hk with hk | ⟨rfl, hc1⟩
    · have : (128 : Nat) ^ (k + 1) ≤ 128 ^ 9 := Nat.pow_le_pow_right (by decide) (by omega)
      have e9 : (128 : Nat) ^ 9 = 9223372036854775808 := by decide
      omega
    · have e9 : (128 : Nat) ^ 9 = 9223372036854775808 := by decide
      rw [e9]
      have : c % 128 ≤ 1 := by omega
      omega
  refine ⟨?_, by omega, fun h => by have := hbig.2 h; omega⟩
  rw [low7_walk c hc, e0]
  have e1 : IntKind.u64.wrap ((c % 128 : Nat) : Int) = ((c % 128 : Nat) : Int) := by simp only [IntKind.wrap_u64]; omega
  have e2 : ((c % 128 : Nat) : Int) * ((128 ^ k : Nat) : Int) = ((c % 128 * 128 ^ k : Nat) : Int) := by simp
  rw [e1, e2]
  have e3 : IntKind.u64.wrap ((c % 128 * 128 ^ k : Nat) : Int) = ((c % 128 * 128 ^ k : Nat) : Int) := by
    simp only [IntKind.wrap_u64]
    rw [Int.emod_eq_of_lt (by omega) (by omega)]
  rw [e3, u64_or_nat _ _ (by omega) (by omega)]
  congr 1
  rw [Nat.or_comm, pow7, nat_join (7 * k) _ _ (by simp) (by rw [← pow7]; exact hn), Nat.add_comm]
theorem take9_walk (n c : Nat) (hc : c ≤ 1) (hn : n < 128 ^ 9) :
    bits BinOp.or IntKind.u64 (n : Int) (IntKind.u64.wrap (IntKind.u64.wrap (bits BinOp.andNot IntKind.u8 (c : Int) 128) * 9223372036854775808)) = ((n + c % 128 * 128 ^ 9 : Nat) : Int) :=
  (take7_walk n c 9 (by omega) (.inr ⟨rfl, hc⟩) hn).1
def readAt (i v : Nat) : List Nat → Nat × Nat × Nat
  | [] => (0, 0, 20)
  | c :: r =>
    if i = 9 ∧ 1 < c then (0, 0, 12)
    else if 128 ≤ c then readAt (i + 1) (v + c % 128 * 128 ^ i) r
    else if c = 0 ∧ 0 < i then (0, 0, 10)
    else (v + c % 128 * 128 ^ i, i + 1, 0)
def readN (l : List Nat) : Nat × Nat × Nat := readAt 0 0 l
theorem readAt_nil (i v : Nat) : readAt i v [] = (0, 0, 20) := rfl
theorem readAt_range {i v c : Nat} {r : List Nat} (h : i = 9 ∧ 1 < c) : readAt i v (c :: r) = (0, 0, 12) := by rw [readAt, if_pos h]
theorem readAt_more {i v c : Nat} {r : List Nat} (h : ¬(i = 9 ∧ 1 < c)) (hc : 128 ≤ c) : readAt i v (c :: r) = readAt (i + 1) (v + c % 128 * 128 ^ i) r := by rw [readAt, if_neg h, if_pos hc]
theorem readAt_form {i v c : Nat} {r : List Nat} (hc : c = 0 ∧ 0 < i) : readAt i v (c :: r) = (0, 0, 10) := by rw [readAt, if_neg (by omega), if_neg (by omega), if_pos hc]
theorem readAt_ok {i v c : Nat} {r : List Nat} (h : ¬(i = 9 ∧ 1 < c)) (hc : c < 128) (h0 : ¬(c = 0 ∧ 0 < i)) : readAt i v (c :: r) = (v + c % 128 * 128 ^ i, i + 1, 0) := by
  rw [readAt, if_neg h, if_neg (by omega), if_neg h0]
theorem readAt_inv (l : List Nat) : ∀ (i n v r : Nat), i ≤ 9 → n < 128 ^ i → (∀ x ∈ l, x < 256) → readAt i n l = (v, r, 0) →
    ∃ m, r = i + (shortN m).length ∧ (shortN m).length ≤ l.length ∧ l.take (shortN m).length = shortN m ∧ v = n + m * 128 ^ i ∧ (0 < i → m ≠ 0) ∧ v < 18446744073709551616 := by
  induction l with
  | nil => intro i n v r _ _ _ h; rw [readAt_nil] at h; simp at h
  | cons c l ih =>
    intro i n v r hi hn h8 h
    have hc := h8 c (List.mem_cons_self)
    by_cases h1 : i = 9 ∧ 1 < c
    · rw [readAt_range h1] at h; simp at h
    · by_cases h2 : 128 ≤ c
      · rw [readAt_more h1 h2] at h
        have hi8 : i ≤ 8 := by omega
        obtain ⟨m, hr, hlen, htake, hv, hm, hlt⟩ := ih _ _ _ _ (by omega) ((take7_walk n c i hc (.inl hi8) hn).2.2 hi8) (fun x hx => h8 x (List.mem_cons_of_mem _ hx)) h
        have hm0 := hm (by omega)
        have hs : shortN (c % 128 + 128 * m) = c :: shortN m := by
          rw [shortN_hi (by omega)]
          congr 1
          · omega
          · congr 1; omega
        refine ⟨c % 128 + 128 * m, ?_, ?_, ?_, ?_, fun _ => by omega, hlt⟩
        · rw [hs, List.length_cons]; omega
        · rw [hs, List.length_cons, List.length_cons]; omega
        · rw [hs, List.length_cons, List.take_succ_cons, htake]
        · rw [hv, Nat.pow_succ, Nat.add_mul, Nat.add_assoc]
          congr 2
          rw [Nat.mul_comm (128 ^ i) 128, ← Nat.mul_assoc, Nat.mul_comm m 128]
      · by_cases h3 : c = 0 ∧ 0 < i
        · rw [readAt_form h3] at h; simp at h
        · rw [readAt_ok h1 (by omega) h3] at h
          simp only [Prod.mk.injEq, and_true] at h
          obtain ⟨rfl, rfl⟩ := h
          have hb := (take7_walk n c i hc (by omega) hn).2.1
          have hs := shortN_lo (v := c) (by omega)
          refine ⟨c, by rw [hs]; rfl, by rw [hs]; simp, by rw [hs]; simp, ?_, fun h => by omega, hb⟩
          rw [Nat.mod_eq_of_lt (by omega)]
theorem readN_inv {l : List Nat} {v r : Nat} (h8 : ∀ x ∈ l, x < 256) (h : readN l = (v, r, 0)) :
    r = (shortN v).length ∧ r ≤ l.length ∧ l.take r = shortN v ∧ v < 18446744073709551616 := by
  obtain ⟨m, hr, hlen, htake, hv, _, hlt⟩ := readAt_inv l 0 0 v r (by omega) (by decide) h8 h
  simp at hr hv
  subst hv; subst hr
  exact ⟨rfl, hlen, htake, hlt⟩
theorem readAt_short (r : List Nat) (m : Nat) : ∀ (i n : Nat), i ≤ 9 → (i = 0 ∨ m ≠ 0) → m * 128 ^ i < 18446744073709551616 → readAt i n (shortN m ++ r) = (n + m * 128 ^ i, i + (shortN m).length, 0) := by
  induction m using Nat.strongRecOn with
  | _ m ih =>
    intro i n hi h0 hb
    have e9 : (128 : Nat) ^ 9 = 9223372036854775808 := by decide
    by_cases hm : m < 128
    · rw [shortN_lo hm, List.singleton_append, readAt_ok ?_ hm (by omega), Nat.mod_eq_of_lt hm]
      · rfl
      · rintro ⟨rfl, h1⟩
        rw [e9] at hb
        omega
    · have hi8 : i ≠ 9 := by
        rintro rfl
        rw [e9] at hb
        omega
      have hp : m / 128 * 128 ^ (i + 1) + m % 128 * 128 ^ i = m * 128 ^ i := by
        rw [Nat.pow_succ, Nat.mul_comm (128 ^ i) 128, ← Nat.mul_assoc, ← Nat.add_mul]
        congr 1
        omega
      rw [shortN_hi (by omega), List.cons_append, readAt_more (by omega) (by omega), ih (m / 128) (by omega) (i + 1) _ (by omega) (.inr (by omega)) (by omega)]
      have e : (m % 128 + 128) % 128 = m % 128 := by omega
      rw [e, List.length_cons]
      simp only [Prod.mk.injEq, and_true]
      omega
theorem readN_short (v : Nat) (r : List Nat) (hv : v < 18446744073709551616) : readN (shortN v ++ r) = (v, (shortN v).length, 0) := by
  have h := readAt_short r v 0 0 (by omega) (.inl rfl) (by simpa using hv)
  rw [readN, h]
  simp
def bytesN : Nat → Nat → List Nat
  | _, 0 => []
  | v, n + 1 => bytesN (v / 256) n ++ [v % 256]
theorem bytesN_len (n : Nat) : ∀ v, (bytesN v n).length = n := by
  induction n with
  | zero => intro v; rfl
  | succ n ih => intro v; rw [bytesN, List.length_append, ih]; rfl
theorem bytesN_byte (n : Nat) : ∀ v, ∀ x ∈ bytesN v n, x < 256 := by
  induction n with
  | zero => intro v x hx; cases hx
  | succ n ih =>
    intro v x hx
    rw [bytesN] at hx
    rcases List.mem_append.1 hx with h | h
    · exact ih _ x h
    · simp at h; omega
theorem replicate_set (k : Nat) (tail : List Nat) (x : Nat) : (List.replicate (k + 1) 0 ++ tail).set k x = List.replicate k 0 ++ x :: tail := by
  rw [List.replicate_succ', List.append_assoc, List.set_append_right _ _ (by simp)]
  simp
end Go.Proofs.YtohffiehmmcgbaaGreatDoor
namespace Go.Proofs.YtohffiehmmcgbaaGreatDoor
open Go.Lib
structure K where
  kind : Int
  num : Int
  foot : ByteArray
  req : Int
  path : ByteArray
  mode : Int
  n : Int
  time : Int
deriving DecidableEq
def okK (c : K) : Prop := (0 ≤ c.num ∧ c.num < 18446744073709551616) ∧ (0 ≤ c.req ∧ c.req < 18446744073709551616) ∧ (0 ≤ c.n ∧ c.n < 18446744073709551616) ∧ (-9223372036854775808 ≤ c.kind ∧ c.kind ≤ 9223372036854775807) ∧ (-9223372036854775808 ≤ c.mode ∧ c.mode ≤ 9223372036854775807) ∧ -9223372036854775808 ≤ c.time ∧ c.time ≤ 9223372036854775807
def h0 (k : Int) : Bool := decide (1 ≤ k ∧ k ≤ 8)
def h1 (k : Int) : Bool := decide (1 ≤ k ∧ k ≤ 7)
def h2 (k : Int) : Bool := decide (4 ≤ k ∧ k ≤ 7)
def h3 (k : Int) : Bool := decide (k = 4 ∨ k = 5)
def h4 (k : Int) : Bool := decide (k = 1 ∨ k = 7)
def h5 (k : Int) : Bool := decide (k = 1 ∨ k = 3 ∨ k = 8)
def isK (k : Int) : Bool := decide (0 ≤ k ∧ k < 9)
def Sig (k : Int) (a b c d e f : Bool) : Prop := h0 k = a ∧ h1 k = b ∧ h2 k = c ∧ h3 k = d ∧ h4 k = e ∧ h5 k = f
theorem sig_cases (k : Int) : (Sig k false false false false false false ∧ ¬ (1 ≤ k ∧ k ≤ 8)) ∨ (k = 1 ∧ Sig k true true false false true true) ∨ (k = 2 ∧ Sig k true true false false false false) ∨ (k = 3 ∧ Sig k true true false false false true) ∨
    ((k = 4 ∨ k = 5) ∧ Sig k true true true true false false) ∨ (k = 6 ∧ Sig k true true true false false false) ∨ (k = 7 ∧ Sig k true true true false true false) ∨ (k = 8 ∧ Sig k true false false false false true) := by
  rcases Decidable.em (1 ≤ k ∧ k ≤ 8) with h | h
  · have : k = 1 ∨ k = 2 ∨ k = 3 ∨ k = 4 ∨ k = 5 ∨ k = 6 ∨ k = 7 ∨ k = 8 := by omega
    rcases this with rfl | rfl | rfl | rfl | rfl | rfl | rfl | rfl <;> simp [Sig, h0, h1, h2, h3, h4, h5]
  · left
    refine ⟨⟨?_, ?_, ?_, ?_, ?_, ?_⟩, h⟩
    · exact decide_eq_false h
    · exact decide_eq_false (by omega)
    · exact decide_eq_false (by omega)
    · exact decide_eq_false (by omega)
    · exact decide_eq_false (by omega)
    · exact decide_eq_false (by omega)
def own (c : K) : K := ⟨c.kind, if h0 c.kind then c.num else 0, if h0 c.kind then c.foot else ⟨#[]⟩, if h1 c.kind then c.req else 0, if h2 c.kind then c.path else ⟨#[]⟩, if h3 c.kind then c.mode else 0, if h4 c.kind then c.n else 0, if h5 c.kind then c.time else 0⟩
def mostN (k : Int) : Int := if k = 1 then 1048576 else 9223372036854775807
def in0 (c : K) : Bool := !h0 c.kind || right (L c.foot)
def in1 (c : K) : Bool := !h1 c.kind || decide (1 ≤ c.req)
def in2 (c : K) : Bool := !h2 c.kind || right (L c.path)
def in3 (c : K) : Bool := !h3 c.kind || decide (c.mode = 1 ∨ c.mode = 2)
def in4 (c : K) : Bool := !h4 c.kind || decide (1 ≤ c.n ∧ c.n ≤ mostN c.kind)
def in5 (c : K) : Bool := !h5 c.kind || decide (0 ≤ c.time ∧ c.time ≤ 1099511627776)
def areIn (c : K) : Bool := in0 c && in1 c && in2 c && in3 c && in4 c && in5 c
def rightK (c : K) : Bool := isK c.kind && decide (c = own c) && areIn c
def lacks (c : K) : Bool := (!h0 c.kind && (decide (c.num ≠ 0) || decide (L c.foot ≠ []))) || (!h1 c.kind && decide (c.req ≠ 0)) || (!h2 c.kind && decide (L c.path ≠ [])) || (!h3 c.kind && decide (c.mode ≠ 0)) || (!h4 c.kind && decide (c.n ≠ 0)) || (!h5 c.kind && decide (c.time ≠ 0))
def docK (c : K) : Bool := isK c.kind && !lacks c && !((h0 c.kind && !right (L c.foot)) || (h1 c.kind && decide (c.req = 0)) || (h2 c.kind && !right (L c.path))) &&
  !((h3 c.kind && decide (c.mode < 1 ∨ 2 < c.mode)) || (h4 c.kind && decide (c.n = 0)) || (h4 c.kind && decide (c.kind = 1) && decide (1048576 < c.n)) || (h4 c.kind && decide (9223372036854775807 < c.n))) && decide (0 ≤ c.time) && decide (c.time ≤ 1099511627776)
theorem L_nil {s : ByteArray} : L s = [] ↔ s = ⟨#[]⟩ := by
  constructor
  · intro h
    exact L_inj.1 h
  · rintro rfl; rfl
theorem own_eq (c : K) : c = own c ↔ lacks c = false := by
  obtain ⟨k, u, f, q, p, m, n, t⟩ := c
  unfold own lacks
  cases h0 k <;> cases h1 k <;> cases h2 k <;> cases h3 k <;> cases h4 k <;> cases h5 k <;> simp [L_nil, and_assoc]
theorem kind_time (c : K) (h : lacks c = false) : h5 c.kind = false → c.time = 0 := by
  intro h5
  unfold lacks at h
  simp [h5] at h
  exact h.2
theorem doc_right (c : K) (ho : okK c) : docK c = rightK c := by
  obtain ⟨_, ⟨o1, _⟩, ⟨o2, _⟩, _⟩ := ho
  unfold docK rightK
  cases hk : isK c.kind
  · simp
  have ho := own_eq c
  cases hl : lacks c
  case true =>
    have : ¬ c = own c := by rw [ho, hl]; decide
    simp [this]
  have h1' : c = own c := by rw [ho]; exact hl
  have ht := kind_time c hl
  rw [decide_eq_true h1']
  unfold areIn in0 in1 in2 in3 in4 in5 mostN
  rcases sig_cases c.kind with ⟨⟨a, b, d, e, f, g⟩, hh⟩ | ⟨hh, a, b, d, e, f, g⟩ | ⟨hh, a, b, d, e, f, g⟩ | ⟨hh, a, b, d, e, f, g⟩ | ⟨hh, a, b, d, e, f, g⟩ | ⟨hh, a, b, d, e, f, g⟩ | ⟨hh, a, b, d, e, f, g⟩ | ⟨hh, a, b, d, e, f, g⟩
  all_goals
    cases right (L c.foot) <;> cases right (L c.path) <;> (rw [Bool.eq_iff_iff]; simp [a, b, d, e, f, g] at ht ⊢ <;> (try rw [ht]) <;> (try simp [hh]) <;> omega)
end Go.Proofs.YtohffiehmmcgbaaGreatDoor
namespace Go.Proofs.YtohffiehmmcgbaaGreatDoor
open Go.ChangeShapes Go.WideShapes Go.ChangeAt Go.RowKit
def Held (B : Nat) (w : World) (A : Option Addr) (l : List Nat) : Prop :=
  ∀ (j x : Nat), l[j]? = some x → ∃ b o, A = some ⟨b, o, none⟩ ∧ b < B ∧ w.cell? ⟨b, o + j, none⟩ = some (.int .u8 (x : Int))
theorem Sees.held {w : World} {A : Option Addr} {l : List Nat} (h : Sees .u8 w A l) : Held w.heap.size w A l := h
theorem Held.sees {B : Nat} {w : World} {A : Option Addr} {l : List Nat} (h : Held B w A l) (hB : B ≤ w.heap.size) : Sees .u8 w A l := fun j x hj => by
  obtain ⟨b, o, hA, hb, hc⟩ := h j x hj
  exact ⟨b, o, hA, by omega, hc⟩
theorem Held.below {B : Nat} {w w' : World} {A : Option Addr} {l : List Nat} (h : Held B w A l) (hb : Below B w w') : Held B w' A l := fun j x hj => by
  obtain ⟨b, o, hA, hlt, hc⟩ := h j x hj
  exact ⟨b, o, hA, hlt, (hb.cell (by exact hlt)).trans hc⟩
theorem Held.more {B B' : Nat} {w : World} {A : Option Addr} {l : List Nat} (h : Held B w A l) (hB : B ≤ B') : Held B' w A l := fun j x hj => by
  obtain ⟨b, o, hA, hlt, hc⟩ := h j x hj
  exact ⟨b, o, hA, by omega, hc⟩
theorem Held.nil (B : Nat) (w : World) (A : Option Addr) : Held B w A [] := fun j x h => by simp at h
theorem Held.take {B : Nat} {w : World} {A : Option Addr} {l : List Nat} (h : Held B w A l) (i : Nat) : Held B w A (l.take i) := fun j x hj => by
  refine h j x ?_
  rw [List.getElem?_take] at hj
  split at hj
  · exact hj
  · cases hj
theorem Held.rest {B : Nat} {w : World} {b o i : Nat} {l : List Nat} (h : Held B w (some ⟨b, o, none⟩) l) : Held B w (some ⟨b, o + i, none⟩) (l.drop i) := fun j x hj => by
  rw [List.getElem?_drop] at hj
  obtain ⟨b', o', hA', hlt, hc⟩ := h _ x hj
  injection hA' with h1
  injection h1 with h2 h3
  subst h2; subst h3
  exact ⟨b, o + i, rfl, hlt, by rw [Nat.add_assoc]; exact hc⟩
theorem cut_front {P : Program} (t e : TypeId) (i : TypeInfo) (ht : P.underlying t = some (.slice e)) (hi : P.info? e = some i) {B : Nat} {w0 : World} {A : Option Addr} {l : List Nat} {n c k : Nat} (hk : k ≤ n) (hc : n ≤ c) (h : Held B w0 A l) (hA : A = none → c = 0) :
    ∃ A1, (∀ w, (Instr.slice t (.slice A n c) none (some (.int .i64 (k : Int))) (some (.int .i64 (k : Int)))).run P w = .ok (.slice A1 k k) w) ∧ (A1 = none → k = 0) ∧ Held B w0 A1 (l.take k) := by
  have he : P.elem t = e := by simp [Program.elem, ht]
  have hsz : ∀ w, (sizeOf (P.elem t)).run P w = .ok i.size w := fun w => by rw [he]; simp [sizeOf, typeInfo, hi]
  refine ⟨if k = 0 then A else A.map (·.add (0 * i.size)), fun w => ?_, fun hn' => ?_, ?_⟩
  · rw [run_slice_hm (P := P) w t A n c (by rw [ht, he]) .i64 .i64 (k : Int) (k : Int) (by omega) (by omega) (by omega), hsz]
    simp [Result.andThen, sliced]
  · by_cases h0 : k = 0
    · exact h0
    · rw [if_neg h0] at hn'
      cases A with
      | none => have := hA rfl; omega
      | some a => cases hn'
  · by_cases h0 : k = 0
    · rw [h0, List.take_zero]
      exact Held.nil _ _ _
    · rw [if_neg h0, Nat.zero_mul]
      have e : A.map (·.add 0) = A := by cases A <;> simp [Addr.add]
      rw [e]
      exact h.take k
theorem cut_rest {P : Program} (t e : TypeId) (i : TypeInfo) (ht : P.underlying t = some (.slice e)) (hi : P.info? e = some i) (hs : i.size = 1) {B : Nat} {w0 : World} {A : Option Addr} {l : List Nat} {n c k : Nat} (hn : l.length = n) (hk : k ≤ n) (hc : n ≤ c) (h : Held B w0 A l) (hA : A = none → c = 0) :
    ∃ A1, (∀ w, (Instr.slice t (.slice A n c) (some (.int .i64 (k : Int))) none none).run P w = .ok (.slice A1 (n - k) (c - k)) w) ∧ (A1 = none → c - k = 0) ∧ Held B w0 A1 (l.drop k) := by
  have he : P.elem t = e := by simp [Program.elem, ht]
  have hsz : ∀ w, (sizeOf (P.elem t)).run P w = .ok i.size w := fun w => by rw [he]; simp [sizeOf, typeInfo, hi]
  refine ⟨if c = k then A else A.map (·.add (k * i.size)), fun w => ?_, fun hn' => ?_, ?_⟩
  · rw [run_slice_l (P := P) w t A n c (by rw [ht, he]) .i64 (k : Int) (by omega) (by omega), hsz]
    simp [Result.andThen, sliced]
  · by_cases h0 : c = k
    · omega
    · rw [if_neg h0] at hn'
      cases A with
      | none => have := hA rfl; omega
      | some a => cases hn'
  · by_cases h0 : k < n
    · rw [if_neg (by omega), hs, Nat.mul_one]
      obtain ⟨b, o, rfl, _, _⟩ := h 0 l[0] (List.getElem?_eq_getElem (by omega))
      rw [show (some (⟨b, o, none⟩ : Addr)).map (·.add k) = some ⟨b, o + k, none⟩ by simp [add_plain]]
      exact h.rest
    · rw [List.drop_of_length_le (by omega)]
      exact Held.nil _ _ _
def Blk (w : World) (g : Nat) (t : TypeId) (cs : Array Value) : Prop := w.heap[g]? = some (.cells cs t (0, 0))
section
variable {w w' : World} {g : Nat} {t : TypeId} {cs : Array Value}
theorem Blk.lt (h : Blk w g t cs) : g < w.heap.size := by
  rcases Nat.lt_or_ge g w.heap.size with hlt | hge
  · exact hlt
  · unfold Blk at h; rw [Array.getElem?_eq_none hge] at h; cases h
theorem Blk.heap (h : Blk w g t cs) : w.heap[g]? = some (.cells cs t (0, 0)) := h
theorem Blk.cell (h : Blk w g t cs) (i : Nat) : w.cell? ⟨g, i, none⟩ = cs[i]? := cell_of_row w g i cs t (0, 0) h
theorem Blk.frozen (h : Blk w g t cs) (i : Nat) : w.frozen? ⟨g, i, none⟩ = false := by
  unfold Blk at h
  simp [World.frozen?, h]
theorem Blk.new (w : World) (t : TypeId) (cs : Array Value) : Blk (w.alloc (.cells cs t)) w.heap.size t cs := heap_alloc_new w _
theorem Blk.drew (h : Blk w g t cs) : Blk w.drew g t cs := h
theorem Blk.drewN (h : Blk w g t cs) (n : Nat) : Blk (w.drewN n) g t cs := h
theorem Blk.alloc (h : Blk w g t cs) (o : Obj) : Blk (w.alloc o) g t cs := (Below.heap_alloc w o g h.lt).trans h
theorem Blk.set_ (h : Blk w g t cs) (i : Nat) (u : Value) : Blk (w.setCell ⟨g, i, none⟩ u) g t (cs.setIfInBounds i u) := by
  unfold Blk at h ⊢
  simp [World.setCell, Array.getElem?_modify, h]
theorem Blk.far (h : Blk w g t cs) {p : Addr} (hp : g ≠ p.block) (u : Value) : Blk (w.setCell p u) g t cs := (Below.heap_setCell w p u g hp).trans h
theorem Blk.below {B : Nat} (h : Blk w g t cs) (hb : Below B w w') (hg : g < B) : Blk w' g t cs := (hb.block g hg).trans h
theorem Blk.grown {row : Option Nat} (h : Blk w g t cs) (hb : w.grownBy w' row) (hg : some g ≠ row) : Blk w' g t cs := (hb.block g h.lt hg).trans h
end
theorem only_setCell {a w : World} {g : Nat} (h : a.grownBy w (some g)) {p : Addr} (hp : p.block = g ∨ a.heap.size ≤ p.block) (u : Value) : a.grownBy (w.setCell p u) (some g) :=
  ⟨h.os, h.tape, h.output, by simpa [World.setCell] using h.size, fun i hi hne => (Below.heap_setCell w p u i (by
    rintro rfl
    rcases hp with hp | hp
    · exact hne (by rw [hp])
    · omega)).trans (h.block i hi hne)⟩
theorem only_of_below {a w : World} (h : Below a.heap.size a w) (row : Option Nat) : a.grownBy w row := ⟨h.os, h.tape, h.output, h.size, fun i hi _ => h.block i hi⟩
theorem below_only {B g : Nat} {a w : World} (h : a.grownBy w (some g)) (hB : B ≤ g) (hg : B ≤ a.heap.size) : Below B a w :=
  ⟨h.os, h.tape, h.output, h.size, fun i hi => h.block i (by omega) (by simp; omega)⟩
theorem only_below {a b c : World} {g : Nat} (h : a.grownBy b (some g)) (k : Below b.heap.size b c) : a.grownBy c (some g) := h.trans (only_of_below k _)
end Go.Proofs.YtohffiehmmcgbaaGreatDoor
namespace Go.Proofs.YtohffiehmmcgbaaGreatDoor
open Go.ChangeShapes Go.WideShapes Go.ChangeAt Go.RowKit
def lsA (f : Nat → Int) : List Value := (List.range 8).map fun i => Value.int .i64 (f i)
def lsD (f : Nat → Int) : List Value := (List.range 7).map fun i => Value.int .i64 (f (i + 1))
def rowA (f : Nat → Int) : Array Value := (lsA f).toArray
def upd (f : Nat → Int) (k : Nat) (x : Int) : Nat → Int := fun i => if i = k then x else f i
theorem rowA_size (f : Nat → Int) : (rowA f).size = 8 := by simp [rowA, lsA]
theorem lsD_len (f : Nat → Int) : (lsD f).length = 7 := by simp [lsD]
theorem rowA_get (f : Nat → Int) {i : Nat} (h : i < 8) : (rowA f)[i]? = some (.int .i64 (f i)) := by
  simp [rowA, lsA, List.getElem?_range h]
theorem lsD_get (f : Nat → Int) {i : Nat} (h : i < 7) : (lsD f)[i]? = some (.int .i64 (f (i + 1))) := by
  simp [lsD, List.getElem?_range h]
theorem rowA_set (f : Nat → Int) (k : Nat) (x : Int) : (rowA f).setIfInBounds k (.int .i64 x) = rowA (upd f k x) := by
  apply Array.ext
  · simp [rowA_size]
  · intro i h1 h2
    have hi : i < 8 := by rw [rowA_size] at h2; exact h2
    have e1 := rowA_get f hi
    have e2 := rowA_get (upd f k x) hi
    rw [Array.getElem_setIfInBounds (by rw [rowA_size]; exact hi)]
    have e3 := (Array.getElem?_eq_some_iff.1 e2).2
    rw [e3]
    have e4 := (Array.getElem?_eq_some_iff.1 e1).2
    unfold upd
    by_cases e : k = i
    · subst e; simp
    · rw [if_neg e, if_neg (Ne.symm e)]; exact e4
theorem rowA_one (f : Nat → Int) : (rowA f).all (·.oneCell') = true := by
  simp [rowA, lsA, Value.oneCell']
def mx (f g : Nat → Int) : Nat → Int := fun i => if f i < g i then g i else f i
def okB (f : Nat → Int) : Bool := decide (0 ≤ f 0 ∧ f 0 ≤ 1073741824) && (List.range 7).all fun i => decide (0 ≤ f (i + 1) ∧ f (i + 1) ≤ 1024)
theorem okB_iff {f : Nat → Int} : okB f = true ↔ (0 ≤ f 0 ∧ f 0 ≤ 1073741824) ∧ ∀ i, i < 7 → 0 ≤ f (i + 1) ∧ f (i + 1) ≤ 1024 := by simp [okB, List.all_eq_true]
theorem Blk.att {w : World} {g : Nat} {T : TypeId} {f : Nat → Int} (h : Blk w g T (rowA f)) {i : Nat} (hi : i < 8) : w.cell? ⟨g, i, none⟩ = some (.int .i64 (f i)) := (h.cell i).trans (rowA_get f hi)
theorem Blk.attSet {w : World} {g : Nat} {T : TypeId} {f : Nat → Int} (h : Blk w g T (rowA f)) (i : Nat) (x : Int) : Blk (w.setCell ⟨g, i, none⟩ (.int .i64 x)) g T (rowA (upd f i x)) := by
  have := h.set_ i (.int .i64 x)
  rwa [rowA_set] at this
theorem Blk.range {w : World} {g : Nat} {T : TypeId} {f : Nat → Int} (h : Blk w g T (rowA f)) : w.rangeAt g 1 (lsD f) := by
  intro j v hv
  have hj : j < 7 := by rw [← lsD_len f]; exact (List.getElem?_eq_some_iff.1 hv).1
  rw [lsD_get f hj] at hv
  rw [h.att (by omega), ← hv, Nat.add_comm 1 j]
end Go.Proofs.YtohffiehmmcgbaaGreatDoor
namespace Go.Proofs.YtohffiehmmcgbaaGreatDoor
def repB (r : Int) : Bool := decide (0 ≤ r ∧ r ≤ 6)
def nameB (r s : Int) : Bool := decide (0 ≤ r ∧ r ≤ 6 ∧ 0 ≤ s ∧ s ≤ 1023)
def partsB (n r : Int) : Bool := decide ((n = 0 ∧ r = 0) ∨ (0 < n ∧ n ≤ 16777215 ∧ 0 ≤ r ∧ r ≤ 6))
def ballotB (b : Nat) : Bool := decide (b = 0 ∨ (8 ≤ b ∧ b / 8 ≤ 16777215 ∧ b % 8 < 7))
theorem parts_ballot (b : Nat) : partsB ((b / 8 : Nat) : Int) ((b % 8 : Nat) : Int) = ballotB b := by
  unfold partsB ballotB
  rw [decide_eq_decide]
  omega
end Go.Proofs.YtohffiehmmcgbaaGreatDoor
namespace Go.Proofs.YtohffiehmmcgbaaGreatDoor
open Go.ChangeShapes Go.WideShapes Go.ChangeAt Go.RowKit
set_option maxHeartbeats 400000 in
theorem isreplica_any (r : Int) (w : World) :
    Calls Tryz.prog 127 #[.int .i64 r] w fun e w' => e = .returned (.bool (repB r)) ∧ w = w' := by
  go_enter Tryz.func127, Tryz.ntmps127
  go_wp2
  all_goals go_ret
  all_goals exact ⟨ret_bool (by unfold repB; rw [Bool.eq_iff_iff]; simp; try omega), rfl⟩
set_option maxHeartbeats 400000 in
theorem round_any (b : Nat) (w : World) (hb : b < 4294967296) :
    Calls Tryz.prog 82 #[.int .u32 (b : Int)] w fun e w' => e = .returned (.int .i64 ((b / 8 : Nat) : Int)) ∧ w = w' := by
  go_enter Tryz.func82, Tryz.ntmps82
  go_wp2
  go_ret
  exact ⟨ret_num (by go_num), rfl⟩
set_option maxHeartbeats 400000 in
theorem replica_any (b : Nat) (w : World) (hb : b < 4294967296) :
    Calls Tryz.prog 83 #[.int .u32 (b : Int)] w fun e w' => e = .returned (.int .i64 ((b % 8 : Nat) : Int)) ∧ w = w' := by
  go_enter Tryz.func83, Tryz.ntmps83
  go_wp2
  go_ret
  exact ⟨ret_num (by go_num), rfl⟩
set_option maxHeartbeats 400000 in
theorem areparts_any (n r : Int) (w : World) :
    Calls Tryz.prog 81 #[.int .i64 n, .int .i64 r] w fun e w' => e = .returned (.bool (partsB n r)) ∧ w = w' := by
  go_enter Tryz.func81, Tryz.ntmps81
  go_wp2_with (go_at_call 127; refine (isreplica_any _ _).mono ?_; rintro e w' ⟨rfl, rfl⟩)
  all_goals go_ret
  all_goals refine ⟨ret_bool ?_, rfl⟩
  all_goals (unfold partsB; try unfold repB)
  all_goals (rw [Bool.eq_iff_iff]; simp only [beq_iff_eq, beq_eq_false_iff_ne, ne_eq, decide_eq_true_eq, Bool.false_eq_true, false_iff] at *)
  all_goals omega
set_option maxHeartbeats 400000 in
theorem ballotright_any (b : Nat) (w : World) (hb : b < 4294967296) :
    Calls Tryz.prog 32 #[.int .u32 (b : Int)] w fun e w' => e = .returned (.bool (ballotB b)) ∧ w = w' := by
  have HP := hid (parts_ballot b)
  go_enter Tryz.func32, Tryz.ntmps32
  go_wp2_with (first
    | (go_at_call 82; refine (round_any _ _ hb).mono ?_; rintro e w' ⟨rfl, rfl⟩)
    | (go_at_call 83; refine (replica_any _ _ hb).mono ?_; rintro e w' ⟨rfl, rfl⟩)
    | (go_at_call 81; refine (areparts_any _ _ _).mono ?_; rintro e w' ⟨rfl, rfl⟩))
  go_ret
  exact ⟨ret_bool HP.out, rfl⟩
theorem join_bits (n k : Nat) (hn : n ≤ 16777215) (hk : k < 8) : bits BinOp.or IntKind.u32 ((n : Int) * 8) (k : Int) = ((n * 8 + k : Nat) : Int) := by
  have h := Nat.two_pow_add_eq_or_of_lt (i := 3) (b := k) (by omega) n
  rw [show 2 ^ 3 * n = n * 8 by omega] at h
  rw [h, ← u32_or_nat (n * 8) k (by omega) (by omega)]
  rfl
set_option maxHeartbeats 400000 in
theorem join_any (n k : Nat) (w : World) (hn : n ≤ 16777215) (hk : k < 8) :
    Calls Tryz.prog 153 #[.int .i64 (n : Int), .int .i64 (k : Int)] w fun e w' => e = .returned (.int .u32 ((n * 8 + k : Nat) : Int)) ∧ w = w' := by
  go_enter Tryz.func153, Tryz.ntmps153
  go_wp2
  go_ret
  refine ⟨ret_num ?_, rfl⟩
  exact join_bits n k hn hk
set_option maxHeartbeats 400000 in
theorem refballot_any (b : Nat) (w : World) (hb : b < 4294967296) :
    Calls Tryz.prog 56 #[.int .u32 (b : Int)] w fun e w' => e = .returned (.bool (ballotB b)) ∧ w = w' := by
  obtain ⟨q, hq⟩ : ∃ q : Int, (b : Int) / 8 = q := ⟨_, rfl⟩
  obtain ⟨r, hr⟩ : ∃ r : Int, (b : Int) % 8 = r := ⟨_, rfl⟩
  have HB : Hid (ballotB b = decide (b = 0 ∨ (0 < q ∧ q ≤ 16777215 ∧ r < 7))) := hid (by unfold ballotB; rw [decide_eq_decide]; omega)
  have HQ : Hid (q = 0 → (b : Int) = r) := hid (by omega)
  have HP := hid (show 0 ≤ q by omega)
  go_enter Tryz.func56, Tryz.ntmps56
  rcases Decidable.em (q = 0) with h0 | h0
  · have HR := hid (HQ.out h0)
    subst h0
    go_wp2
    all_goals go_ret
    all_goals exact ⟨ret_bool (by rw [HB.out]; rw [Bool.eq_iff_iff]; simp), rfl⟩
  · have hz : ((q : Int) == 0) = false := beq_eq_false_iff_ne.2 h0
    rcases Int.lt_or_le q 16777216 with h1 | h1
    · go_wp2
      all_goals go_ret
      all_goals exact ⟨ret_bool (by have := HP.out; rw [HB.out]; rw [Bool.eq_iff_iff]; simp; omega), rfl⟩
    · go_wp2
      all_goals go_ret
      all_goals exact ⟨ret_bool (by have := HP.out; rw [HB.out]; rw [Bool.eq_iff_iff]; simp; omega), rfl⟩
end Go.Proofs.YtohffiehmmcgbaaGreatDoor
namespace Go.Proofs.YtohffiehmmcgbaaGreatDoor
open Go.ChangeShapes Go.WideShapes Go.ChangeAt Go.RowKit
set_option linter.unusedVariables false
theorem below_setRow_ {B : Nat} {a w : World} {g : Nat} {cs : Array Value} (h : Below B a w) (hg : B ≤ g) : Below B a (w.setRow g cs) :=
  h.trans ⟨rfl, rfl, rfl, by simp, fun k hk => setRow_other w g k cs (by omega)⟩
theorem info_attr : (Tryz.prog.info? 35).map (·.size) = some 8 := by kernel_rfl
theorem info_seven : (Tryz.prog.info? 33).map (·.size) = some 7 := by kernel_rfl
theorem zeros_row : (#[.int .i64 0, .int .i64 0, .int .i64 0, .int .i64 0, .int .i64 0, .int .i64 0, .int .i64 0, .int .i64 0] : Array Value) = rowA fun _ => 0 := rfl
theorem len_seven (f : Nat → Int) : (Tryz.prog.info? 33).map (·.size) = some (lsD f).length := by rw [lsD_len]; exact info_seven
theorem len_attr (f : Nat → Int) : (Tryz.prog.info? 35).map (·.size) = some (rowA f).size := by rw [rowA_size]; exact info_attr
theorem size_zero (f : Nat → Int) : (rowA fun _ => 0).size = (rowA f).size := by rw [rowA_size, rowA_size]
theorem run_index_seven (cs : Array Value) (j : Nat) (v : Value) (hj : j < 7) (hv : cs[j]? = some v) (w : World) : (Instr.index 33 (.agg cs) (.int .i64 (j : Int))).run Tryz.prog w = .ok v w := by
  obtain ⟨i, hi⟩ : ∃ i, Tryz.prog.info? 3 = some i := Option.isSome_iff_exists.1 (show (Tryz.prog.info? 3).isSome = true by kernel_rfl)
  have hs := run_sizeOf (P := Tryz.prog) w hi
  rw [show Tryz.prog.cellsOf 3 = 1 by kernel_rfl] at hs
  have hp := run_part_plain (P := Tryz.prog) (w := w) (e := 3) (by kernel_rfl) hv
  have h1 : (0 : Int) ≤ (j : Int) ∧ (j : Int) < ((7 : Nat) : Int) := by omega
  simp only [Instr.index, asIntOf, Sem.run_bind, Sem.run_pure, run_underlying Tryz.underlying33, Result.andThen_ok, Sem.run_ite, if_pos h1, hs, Int.toNat_natCast, Nat.mul_one, hp]
end Go.Proofs.YtohffiehmmcgbaaGreatDoor
namespace Go.Proofs.YtohffiehmmcgbaaGreatDoor
open Go.ChangeShapes Go.WideShapes Go.ChangeAt Go.RowKit
set_option linter.unusedVariables false
theorem one_new {w W : World} {T : TypeId} {a : Array Value} (h : w.alloc (.cells a T) = W) : Hid (Blk W w.heap.size T a) ∧ Hid (Below w.heap.size w W) := by
  subst h
  exact ⟨hid (Blk.new w T a), hid ((Below.refl _ w).alloc (Nat.le_refl _) _)⟩
theorem two_new {w W : World} {T U : TypeId} {a b : Array Value} (h : (w.alloc (.cells a T)).alloc (.cells b U) = W) :
    Hid (Blk W w.heap.size T a) ∧ Hid (Blk W (w.heap.size + 1) U b) ∧ Hid (Below w.heap.size w W) := by
  subst h
  have h2 := Blk.new (w.alloc (.cells a T)) U b
  rw [show (w.alloc (.cells a T)).heap.size = w.heap.size + 1 by simp] at h2
  exact ⟨hid ((Blk.new w T a).alloc _), hid h2, hid (((Below.refl _ w).alloc (Nat.le_refl _) _).alloc (by simp) _)⟩
theorem okB_seq {f : Nat → Int} (h : ¬ (0 ≤ f 0 ∧ f 0 ≤ 1073741824)) : okB f = false := by
  rw [Bool.eq_false_iff]; intro hh; exact h (okB_iff.1 hh).1
theorem okB_dep {f : Nat → Int} {j : Nat} (hj : j < 7) (h : ¬ (0 ≤ f (1 + j) ∧ f (1 + j) ≤ 1024)) : okB f = false := by
  rw [Bool.eq_false_iff]; intro hh; rw [Nat.add_comm] at h; exact h ((okB_iff.1 hh).2 j hj)
theorem okB_all {f : Nat → Int} {j : Nat} (hj : 7 ≤ j) (h0 : 0 ≤ f 0 ∧ f 0 ≤ 1073741824) (h : ∀ i, i < j → 0 ≤ f (1 + i) ∧ f (1 + i) ≤ 1024) : okB f = true :=
  okB_iff.2 ⟨h0, fun i hi => by have := h i (by omega); rwa [Nat.add_comm] at this⟩
theorem okB_of {f : Nat → Int} {j : Nat} (hj : 7 ≤ j) (h : ∀ i, i < j → 0 ≤ f (1 + i) ∧ f (1 + i) ≤ 1024) : okB f = decide (0 ≤ f 0 ∧ f 0 ≤ 1073741824) := by
  by_cases h0 : 0 ≤ f 0 ∧ f 0 ≤ 1073741824
  · rw [okB_all hj h0 h, decide_eq_true h0]
  · rw [okB_seq h0, decide_eq_false h0]
set_option maxRecDepth 100000 in
set_option maxHeartbeats 400000 in
theorem aright_any (f : Nat → Int) (w : World) :
    Calls Tryz.prog 143 #[.agg (rowA f)] w fun e w' => e = .returned (.bool (okB f)) ∧ Below w.heap.size w w' := by
  go_enter Tryz.func143, Tryz.ntmps143
  go_upto_region 1 with fail
  obtain ⟨W, hW⟩ : ∃ W, w.alloc (.cells (rowA f) 35) = W := ⟨_, rfl⟩
  rw [hW]
  obtain ⟨K0, KB⟩ := one_new hW
  clear hW
  obtain ⟨k, hk⟩ : ∃ k, w.heap.size = k := ⟨_, rfl⟩
  rw [hk] at K0 KB
  rw [hk]
  have HK := hid hk
  clear hk
  have c0 := K0.out.att (i := 0) (by decide)
  by_cases hs : 0 ≤ f 0 ∧ f 0 ≤ 1073741824
  · have HS := hid hs
    obtain ⟨h1, h2⟩ := hs
    have H7 := hid (len_seven f)
    have MR := hid K0.out.range
    go_wp2_with (with_reducible refine wpList_load_mid (op := ⟨some 14, _, _, _, _, _⟩) rfl 33 (.tmp 13) rfl k 1 rfl (lsD f) _ MR.out Tryz.underlying33 rfl H7.out ?_)
    have HI : Hid (∀ j : Nat, j < 7 → (lsD f)[j]? = some (.int .i64 (f (1 + j)))) := hid (fun j hj => by rw [lsD_get f hj, Nat.add_comm])
    obtain ⟨ds, hds⟩ : ∃ ds, lsD f = ds := ⟨_, rfl⟩
    rw [hds] at HI
    rw [hds]
    clear hds MR H7 c0
    go_loop [15] (fun iv => ∃ j : Nat, j ≤ 7 ∧ iv = .int .i64 j ∧ Hid (∀ i, i < j → 0 ≤ f (1 + i) ∧ f (1 + i) ≤ 1024)) (fun iv => 7 - (intOf iv).toNat)
    case atStart => exact ⟨0, by omega, rfl, hid (fun i hi => absurd hi (by omega))⟩
    case round =>
      obtain ⟨j, hj, rfl, H⟩ := hrel
      by_cases hlt : j < 7
      · have hx := run_index_seven ds.toArray j _ hlt ((List.getElem?_toArray ..).trans (HI.out j hlt))
        have HF := hid (fun h => okB_dep (f := f) hlt h)
        have HN : Hid (0 ≤ f (1 + j) ∧ f (1 + j) ≤ 1024 → ∀ i, i < j + 1 → 0 ≤ f (1 + i) ∧ f (1 + i) ≤ 1024) := hid (fun h i hi => by
          rcases (show i < j ∨ i = j by omega) with h2 | h2
          · exact H.out i h2
          · rw [h2]; exact h)
        generalize f (1 + j) = x at hx HF HN
        rcases (show x < 0 ∨ 1024 < x ∨ (0 ≤ x ∧ x ≤ 1024) by omega) with h | h | h
        · have HV := hid (HF.out (by omega))
          go_wp2
          go_ret
          exact ⟨ret_bool HV.out.symm, by rw [HK.out]; exact KB.out⟩
        · have HV := hid (HF.out (by omega))
          go_wp2
          go_ret
          exact ⟨ret_bool HV.out.symm, by rw [HK.out]; exact KB.out⟩
        · have HV := hid (HN.out h)
          obtain ⟨h3, h4⟩ := h
          go_wp2
          go_round
          case rel => exact ⟨j + 1, by omega, by go_num, HV⟩
          case measure => simp only [intOf]; omega
      · have HV := hid (okB_all (f := f) (by omega) HS.out H.out)
        go_wp2
        go_ret
        exact ⟨ret_bool HV.out.symm, by rw [HK.out]; exact KB.out⟩
  · have HV := hid (okB_seq hs)
    rcases (show f 0 < 0 ∨ 1073741824 < f 0 by omega) with h | h
    all_goals
      clear hs
      go_wp2
      go_ret
      exact ⟨ret_bool HV.out.symm, by rw [HK.out]; exact KB.out⟩
set_option maxRecDepth 100000 in
set_option maxHeartbeats 400000 in
theorem refaright_any (f : Nat → Int) (w : World) :
    Calls Tryz.prog 58 #[.agg (rowA f)] w fun e w' => e = .returned (.bool (okB f)) ∧ Below w.heap.size w w' := by
  go_enter Tryz.func58, Tryz.ntmps58
  go_upto_region 1 with fail
  obtain ⟨W, hW⟩ : ∃ W, w.alloc (.cells (rowA f) 46) = W := ⟨_, rfl⟩
  rw [hW]
  obtain ⟨K0, KB⟩ := one_new hW
  clear hW
  obtain ⟨k, hk⟩ : ∃ k, w.heap.size = k := ⟨_, rfl⟩
  rw [hk] at K0 KB
  rw [hk]
  have HK := hid hk
  clear hk
  go_wp2
  go_loop [3] (fun iv => ∃ j : Nat, j ≤ 7 ∧ iv = .int .i64 j ∧ Hid (∀ i, i < j → 0 ≤ f (1 + i) ∧ f (1 + i) ≤ 1024)) (fun iv => 7 - (intOf iv).toNat)
  case atStart => exact ⟨0, by omega, rfl, hid (fun i hi => absurd hi (by omega))⟩
  case round =>
    obtain ⟨j, hj, rfl, H⟩ := hrel
    by_cases hlt : j < 7
    · have c1 := K0.out.att (i := 1 + j) (by omega)
      have HF := hid (fun h => okB_dep (f := f) hlt h)
      have HN : Hid (0 ≤ f (1 + j) ∧ f (1 + j) ≤ 1024 → ∀ i, i < j + 1 → 0 ≤ f (1 + i) ∧ f (1 + i) ≤ 1024) := hid (fun h i hi => by
        rcases (show i < j ∨ i = j by omega) with h2 | h2
        · exact H.out i h2
        · rw [h2]; exact h)
      generalize f (1 + j) = x at c1 HF HN
      rcases (show x < 0 ∨ 1024 < x ∨ (0 ≤ x ∧ x ≤ 1024) by omega) with h | h | h
      · have HV := hid (HF.out (by omega))
        go_wp2
        go_ret
        exact ⟨ret_bool HV.out.symm, by rw [HK.out]; exact KB.out⟩
      · have HV := hid (HF.out (by omega))
        go_wp2
        go_ret
        exact ⟨ret_bool HV.out.symm, by rw [HK.out]; exact KB.out⟩
      · have HV := hid (HN.out h)
        obtain ⟨h3, h4⟩ := h
        go_wp2
        go_round
        case rel => exact ⟨j + 1, by omega, by go_num, HV⟩
        case measure => simp only [intOf]; omega
    · have HV := hid (okB_of (f := f) (by omega) H.out)
      have c0 := K0.out.att (i := 0) (by decide)
      generalize f 0 = x at c0 HV
      rcases (show x < 0 ∨ 1073741824 < x ∨ (0 ≤ x ∧ x ≤ 1073741824) by omega) with h | h | ⟨h, h2⟩
      all_goals
        go_wp2
        go_ret
        exact ⟨ret_bool (by rw [HV.out]; rw [Bool.eq_iff_iff]; simp; try omega), by rw [HK.out]; exact KB.out⟩
end Go.Proofs.YtohffiehmmcgbaaGreatDoor
namespace Go.Proofs.YtohffiehmmcgbaaGreatDoor
open Go.ChangeShapes Go.WideShapes Go.ChangeAt Go.RowKit
set_option linter.unusedVariables false
end Go.Proofs.YtohffiehmmcgbaaGreatDoor
namespace Go.Proofs.YtohffiehmmcgbaaGreatDoor
open Go.ChangeShapes Go.WideShapes Go.ChangeAt Go.RowKit
set_option linter.unusedVariables false
set_option linter.unusedSimpArgs false
abbrev cs8 (f : Nat → Int) : Array Value := #[.int .i64 (f 0), .int .i64 (f 1), .int .i64 (f 2), .int .i64 (f 3), .int .i64 (f 4), .int .i64 (f 5), .int .i64 (f 6), .int .i64 (f 7)]
abbrev cs7 (f : Nat → Int) : Array Value := #[.int .i64 (f 1), .int .i64 (f 2), .int .i64 (f 3), .int .i64 (f 4), .int .i64 (f 5), .int .i64 (f 6), .int .i64 (f 7)]
abbrev va (f : Nat → Int) : Value := .agg (cs8 f)
theorem cs7_get (f : Nat → Int) {i : Nat} (h : i < 7) : (cs7 f)[i]? = some (.int .i64 (f (i + 1))) := by
  have e : cs7 f = (lsD f).toArray := rfl
  rw [e, List.getElem?_toArray]; exact lsD_get f h
def eqD (f g : Nat → Int) : Bool := (List.range 7).all fun i => f (i + 1) == g (i + 1)
def eqA (f g : Nat → Int) : Bool := f 0 == g 0 && eqD f g
theorem eqD_iff {f g : Nat → Int} : eqD f g = true ↔ ∀ i, i < 7 → f (i + 1) = g (i + 1) := by simp [eqD, List.all_eq_true]
theorem eqA_iff {f g : Nat → Int} : eqA f g = true ↔ ∀ i, i < 8 → f i = g i := by
  unfold eqA
  rw [Bool.and_eq_true, beq_iff_eq, eqD_iff]
  constructor
  · rintro ⟨h0, h⟩ i hi
    cases i with
    | zero => exact h0
    | succ i => exact h i (by omega)
  · intro h
    exact ⟨h 0 (by decide), fun i hi => h (i + 1) (by omega)⟩
theorem eqA_self (f : Nat → Int) : eqA f f = true := eqA_iff.2 fun _ _ => rfl
theorem items_seven (f g : Nat → Int) (d : Nat) (w : World) : ∀ is : List Nat, (∀ i ∈ is, i < 7) → (Op.eqItems (d + 1) 3 1 (cs7 f) (cs7 g) is).run Tryz.prog w = .ok (is.all fun i => f (i + 1) == g (i + 1)) w
  | [], _ => by simp [Op.eqItems]
  | i :: is, h => by
    have hi : (cs7 f)[i * 1]? = some (.int .i64 (f (i + 1))) := by rw [Nat.mul_one]; exact cs7_get f (h i (by simp))
    have hj : (cs7 g)[i * 1]? = some (.int .i64 (g (i + 1))) := by rw [Nat.mul_one]; exact cs7_get g (h i (by simp))
    have hp := run_part_plain (P := Tryz.prog) (w := w) (e := 3) (by kernel_rfl) hi
    have hq := run_part_plain (P := Tryz.prog) (w := w) (e := 3) (by kernel_rfl) hj
    have he := run_equalIn_int (P := Tryz.prog) w d 3 .i64 .i64 (f (i + 1)) (g (i + 1)) Tryz.underlying3
    have ih := items_seven f g d w is (fun j hj => h j (by simp [hj]))
    obtain ⟨x, hx⟩ : ∃ x, (f (i + 1) == g (i + 1)) = x := ⟨_, rfl⟩
    rw [hx] at he
    simp only [Op.eqItems, Sem.run_bind, hp, hq, Result.andThen_ok, he, List.all_cons, hx]
    cases x
    · simp
    · simpa using ih
theorem eq_seven (f g : Nat → Int) (d : Nat) (w : World) : (Op.equalIn (d + 2) 33 (.agg (cs7 f)) (.agg (cs7 g))).run Tryz.prog w = .ok (eqD f g) w := by
  obtain ⟨i, hi⟩ : ∃ i, Tryz.prog.info? 3 = some i := Option.isSome_iff_exists.1 (show (Tryz.prog.info? 3).isSome = true by kernel_rfl)
  rw [run_equalIn_array w (d + 1) _ _ Tryz.underlying33 hi]
  have hc : Tryz.prog.cellsOf 3 = 1 := by kernel_rfl
  rw [hc]
  exact items_seven f g d w _ (fun i hi => List.mem_range.1 hi)
theorem part_deps (f : Nat → Int) (w : World) : (part 33 (cs8 f) 1).run Tryz.prog w = .ok (.agg (cs7 f)) w := by
  simp [go_sem, part]
theorem eq_refa (f g : Nat → Int) (b : Bool) (hb : eqA f g = b) (w : World) : (Op.equalIn 10000 46 (.agg #[.int .i64 (f 0), .int .i64 (f 1), .int .i64 (f 2), .int .i64 (f 3), .int .i64 (f 4), .int .i64 (f 5), .int .i64 (f 6), .int .i64 (f 7)]) (.agg #[.int .i64 (g 0), .int .i64 (g 1), .int .i64 (g 2), .int .i64 (g 3), .int .i64 (g 4), .int .i64 (g 5), .int .i64 (g 6), .int .i64 (g 7)])).run Tryz.prog w = .ok b w := by
  have ht : Tryz.prog.underlying 46 = some (.struct (Tryz.prog.fieldsOf 46)) := by kernel_rfl
  have hp : Tryz.prog.stoodInHeld 46 = false := by kernel_rfl
  rw [run_equalIn_struct w 9999 _ _ _ ht hp]
  have p0 := run_part_plain (P := Tryz.prog) (w := w) (e := 3) (by kernel_rfl) (xs := cs8 f) (off := 0) rfl
  have q0 := run_part_plain (P := Tryz.prog) (w := w) (e := 3) (by kernel_rfl) (xs := cs8 g) (off := 0) rfl
  have p1 := part_deps f w
  have q1 := part_deps g w
  have e0 := run_equalIn_int (P := Tryz.prog) w 9998 3 .i64 .i64 (f 0) (g 0) Tryz.underlying3
  have e1 := eq_seven f g 9997 w
  subst hb
  unfold eqA
  obtain ⟨x, hx⟩ : ∃ x, (f 0 == g 0) = x := ⟨_, rfl⟩
  rw [hx] at e0 ⊢
  obtain ⟨y, hy⟩ : ∃ y, eqD f g = y := ⟨_, rfl⟩
  rw [hy] at e1 ⊢
  cases x <;> cases y <;> simp [Program.fieldsOf, Tryz.underlying46, Op.eqFields, p0, p1, q0, q1, e0, e1, Sem.run_bind, Sem.run_ite, Result.andThen_ok]
theorem refa_guard : Tryz.prog.eqGuardType Tryz.prog.depth 46 = false := by kernel_rfl
theorem aright8 (f : Nat → Int) (w : World) : Calls Tryz.prog 143 #[.agg #[.int .i64 (f 0), .int .i64 (f 1), .int .i64 (f 2), .int .i64 (f 3), .int .i64 (f 4), .int .i64 (f 5), .int .i64 (f 6), .int .i64 (f 7)]] w fun e w' => e = .returned (.bool (okB f)) ∧ Below w.heap.size w w' := aright_any f w
def Eight (w : World) (g : Nat) (f : Nat → Int) : Prop :=
  w.cell? ⟨g, 0, none⟩ = some (.int .i64 (f 0)) ∧ w.cell? ⟨g, 1, none⟩ = some (.int .i64 (f 1)) ∧ w.cell? ⟨g, 2, none⟩ = some (.int .i64 (f 2)) ∧ w.cell? ⟨g, 3, none⟩ = some (.int .i64 (f 3)) ∧
    w.cell? ⟨g, 4, none⟩ = some (.int .i64 (f 4)) ∧ w.cell? ⟨g, 5, none⟩ = some (.int .i64 (f 5)) ∧ w.cell? ⟨g, 6, none⟩ = some (.int .i64 (f 6)) ∧ w.cell? ⟨g, 7, none⟩ = some (.int .i64 (f 7))
theorem Blk.eight {w : World} {g : Nat} {T : TypeId} {f : Nat → Int} (h : Blk w g T (rowA f)) : Eight w g f :=
  ⟨h.att (by decide), h.att (by decide), h.att (by decide), h.att (by decide), h.att (by decide), h.att (by decide), h.att (by decide), h.att (by decide)⟩
end Go.Proofs.YtohffiehmmcgbaaGreatDoor
namespace Go.Proofs.YtohffiehmmcgbaaGreatDoor
open Go.ChangeShapes Go.WideShapes Go.ChangeAt Go.RowKit
set_option linter.unusedVariables false
end Go.Proofs.YtohffiehmmcgbaaGreatDoor
namespace Go.Proofs.YtohffiehmmcgbaaGreatDoor
open Go.ChangeShapes Go.WideShapes Go.ChangeAt Go.RowKit
abbrev nm (r s : Int) : Value := .agg #[.int .i64 r, .int .i64 s]
theorem blkn {w : World} {g : Nat} {T : TypeId} {a b : Value} (h : Blk w g T #[a, b]) : (w.cell? ⟨g, 0, none⟩ = some a ∧ w.cell? ⟨g, 1, none⟩ = some b) ∧ w.frozen? ⟨g, 0, none⟩ = false ∧ w.frozen? ⟨g, 1, none⟩ = false :=
  ⟨⟨(h.cell 0).trans rfl, (h.cell 1).trans rfl⟩, h.frozen 0, h.frozen 1⟩
set_option maxRecDepth 100000 in
set_option maxHeartbeats 400000 in
theorem nrefright_any (r s : Int) (w : World) :
    Calls Tryz.prog 55 #[nm r s] w fun e w' => e = .returned (.bool (nameB r s)) ∧ Below w.heap.size w w' := by
  go_enter Tryz.func55, Tryz.ntmps55
  go_wp2
  all_goals go_ret
  all_goals exact ⟨ret_bool (by unfold nameB; rw [Bool.eq_iff_iff]; simp; try omega), (Below.refl _ _).alloc (Nat.le_refl _) _⟩
set_option maxRecDepth 100000 in
set_option maxHeartbeats 400000 in
theorem nright_any (r s : Int) (w : World) :
    Calls Tryz.prog 73 #[nm r s] w fun e w' => e = .returned (.bool (nameB r s)) ∧ Below w.heap.size w w' := by
  obtain ⟨x, hx⟩ : ∃ x, repB r = x := ⟨_, rfl⟩
  have HX := hid hx
  clear hx
  cases x
  all_goals
    go_enter Tryz.func73, Tryz.ntmps73
    go_wp2_with (go_at_call 127; refine (isreplica_any _ _).mono ?_; rintro e w' ⟨rfl, rfl⟩; rw [HX.out])
    all_goals go_ret
    all_goals exact ⟨ret_bool (by have h := HX.out; unfold repB at h; simp only [decide_eq_true_eq, decide_eq_false_iff_not] at h; unfold nameB; rw [Bool.eq_iff_iff]; simp; try omega), (Below.refl _ _).alloc (Nat.le_refl _) _⟩
theorem eq_name (r s r2 s2 : Int) (b : Bool) (hb : (r == r2 && s == s2) = b) (w : World) :
    (Op.equalIn 10000 25 (.agg #[.int .i64 r, .int .i64 s]) (.agg #[.int .i64 r2, .int .i64 s2])).run Tryz.prog w = .ok b w := by
  have ht : Tryz.prog.underlying 25 = some (.struct (Tryz.prog.fieldsOf 25)) := by kernel_rfl
  have hp : Tryz.prog.stoodInHeld 25 = false := by kernel_rfl
  rw [run_equalIn_struct w 9999 _ _ _ ht hp]
  have p1 := run_part_plain (P := Tryz.prog) (w := w) (e := 3) (by kernel_rfl) (xs := #[.int .i64 r, .int .i64 s]) (off := 0) rfl
  have p2 := run_part_plain (P := Tryz.prog) (w := w) (e := 3) (by kernel_rfl) (xs := #[.int .i64 r, .int .i64 s]) (off := 1) rfl
  have p3 := run_part_plain (P := Tryz.prog) (w := w) (e := 3) (by kernel_rfl) (xs := #[.int .i64 r2, .int .i64 s2]) (off := 0) rfl
  have p4 := run_part_plain (P := Tryz.prog) (w := w) (e := 3) (by kernel_rfl) (xs := #[.int .i64 r2, .int .i64 s2]) (off := 1) rfl
  have q1 := run_equalIn_int (P := Tryz.prog) w 9998 3 .i64 .i64 r r2 Tryz.underlying3
  have q2 := run_equalIn_int (P := Tryz.prog) w 9998 3 .i64 .i64 s s2 Tryz.underlying3
  subst hb
  cases h : (r == r2) <;> simp [Program.fieldsOf, Tryz.underlying25, Op.eqFields, p1, p2, p3, p4, q1, q2, h, Sem.run_bind, Sem.run_ite, Result.andThen_ok]
  by_cases h2 : s = s2 <;> simp [h2]
theorem nm_guard : Tryz.prog.eqGuardType Tryz.prog.depth 25 = false := by kernel_rfl
def wordN (r s : Int) : Nat := if nameB r s then r.toNat * 4294967296 + s.toNat else 0
theorem name_in {r s : Int} (h : nameB r s = true) : ∃ a b : Nat, r = a ∧ s = b ∧ a < 7 ∧ b < 1024 ∧ wordN r s = a * 4294967296 + b := by
  have h2 := h
  unfold nameB at h2
  rw [decide_eq_true_eq] at h2
  refine ⟨r.toNat, s.toNat, by omega, by omega, by omega, by omega, ?_⟩
  unfold wordN; rw [if_pos h]
def ofN (a b : Int) : (Int × Int) × Nat := if nameB a b then ((a, b), 0) else ((0, 0), 12)
set_option maxRecDepth 100000 in
set_option maxHeartbeats 400000 in
theorem rightid_any (a b : Int) (w : World) :
    Calls Tryz.prog 152 #[.int .i64 a, .int .i64 b] w fun e w' => e = .returned (.tuple #[nm (ofN a b).1.1 (ofN a b).1.2, .int .i64 ((ofN a b).2 : Int)]) ∧ Below w.heap.size w w' := by
  obtain ⟨x, hx⟩ : ∃ x, nameB a b = x := ⟨_, rfl⟩
  have HX := hid hx
  have HO : Hid (ofN a b = if x = true then ((a, b), 0) else ((0, 0), 12)) := hid (by unfold ofN; rw [hx])
  clear hx
  go_enter Tryz.func152, Tryz.ntmps152
  go_wp2_with fail
  with_reducible refine (nright_any a b _).mono ?_
  rintro e w1 ⟨rfl, hb1⟩
  rw [HX.out]
  have HB := hid (((((Below.refl w.heap.size w).alloc (Nat.le_refl _) _).alloc (by simp) _).trans (hb1.mono (by simp <;> omega))))
  have B1 := Blk.new (w.alloc (.cells #[.int .i64 0, .int .i64 0] 25)) 25 #[.int .i64 a, .int .i64 b]
  rw [show (w.alloc (.cells #[.int .i64 0, .int .i64 0] 25)).heap.size = w.heap.size + 1 by simp] at B1
  have HB1 := hid (B1.below hb1 (by simp))
  obtain ⟨⟨d0, d1⟩, _⟩ := blkn HB1.out
  obtain ⟨⟨c0, c1⟩, k0, k1⟩ := blkn (((Blk.new w 25 #[.int .i64 0, .int .i64 0]).alloc _).below hb1 (by simp <;> omega))
  have hsz : w.heap.size + 1 < w1.heap.size := by have := hb1.size; simp at this; omega
  have hne : w.heap.size ≠ w.heap.size + 1 := by omega
  clear hb1 B1
  cases x
  · go_wp2
    refine bodyPost_ret (v := .tuple #[nm 0 0, .int .i64 12]) (by simp [results, Tryz.results152, go_sem, c0, c1]) rfl ⟨by rw [HO.out]; rfl, ?_⟩
    exact Below.setCell (p := ⟨w.heap.size, 1, none⟩) (Below.setCell (p := ⟨w.heap.size, 0, none⟩) HB.out (Nat.le_refl _) _) (Nat.le_refl _) _
  · go_wp2
    refine bodyPost_ret (v := .tuple #[nm a b, .int .i64 0]) (by simp [results, Tryz.results152, go_sem, c0, c1]) rfl ⟨by rw [HO.out]; rfl, ?_⟩
    exact Below.setCell (p := ⟨w.heap.size, 1, none⟩) (Below.setCell (p := ⟨w.heap.size, 0, none⟩) HB.out (Nat.le_refl _) _) (Nat.le_refl _) _
def Both (w : World) (g : Nat) (r s r2 s2 : Int) : Prop := Blk w g 25 #[.int .i64 r, .int .i64 s] ∧ Blk w (g + 1) 25 #[.int .i64 r2, .int .i64 s2]
theorem Both.start (w : World) (r s r2 s2 : Int) : Both ((w.alloc (.cells #[.int .i64 r, .int .i64 s] 25)).alloc (.cells #[.int .i64 r2, .int .i64 s2] 25)) w.heap.size r s r2 s2 := by
  have h := Blk.new (w.alloc (.cells #[.int .i64 r, .int .i64 s] 25)) 25 #[.int .i64 r2, .int .i64 s2]
  rw [show (w.alloc (.cells #[.int .i64 r, .int .i64 s] 25)).heap.size = w.heap.size + 1 by simp] at h
  exact ⟨(Blk.new w 25 _).alloc _, h⟩
theorem Both.on {w w1 : World} {g : Nat} {r s r2 s2 : Int} (h : Both w g r s r2 s2) (hb : Below w.heap.size w w1) : Both w1 g r s r2 s2 := ⟨h.1.below hb h.1.lt, h.2.below hb h.2.lt⟩
theorem Both.drew {w : World} {g : Nat} {r s r2 s2 : Int} (h : Both w g r s r2 s2) : Both w.drew g r s r2 s2 := ⟨h.1.drew, h.2.drew⟩
theorem Both.cells {w : World} {g : Nat} {r s r2 s2 : Int} (h : Both w g r s r2 s2) : w.cell? ⟨g, 0, none⟩ = some (.int .i64 r) ∧ w.cell? ⟨g, 1, none⟩ = some (.int .i64 s) ∧ w.cell? ⟨g + 1, 0, none⟩ = some (.int .i64 r2) ∧ w.cell? ⟨g + 1, 1, none⟩ = some (.int .i64 s2) :=
  ⟨(h.1.cell 0).trans rfl, (h.1.cell 1).trans rfl, (h.2.cell 0).trans rfl, (h.2.cell 1).trans rfl⟩
end Go.Proofs.YtohffiehmmcgbaaGreatDoor
namespace Go.Proofs.YtohffiehmmcgbaaGreatDoor
open Go.ChangeShapes Go.WideShapes Go.ChangeAt Go.RowKit
set_option linter.unusedVariables false
set_option linter.unusedSimpArgs false
def ownB (f : Nat → Int) (r s : Int) : Bool := okB f && nameB r s && decide (f (1 + r.toNat) = s)
theorem att_name {w W : World} {f : Nat → Int} {r s : Int} (h : (w.alloc (.cells (#[.int .i64 (f 0), .int .i64 (f 1), .int .i64 (f 2), .int .i64 (f 3), .int .i64 (f 4), .int .i64 (f 5), .int .i64 (f 6), .int .i64 (f 7)]) 35)).alloc (.cells #[.int .i64 r, .int .i64 s] 25) = W) :
    Hid (Blk W w.heap.size 35 (rowA f)) ∧ Hid (Blk W (w.heap.size + 1) 25 #[.int .i64 r, .int .i64 s]) ∧ Hid (Below w.heap.size w W) := by
  obtain ⟨h1, h2, h3⟩ := two_new h
  exact ⟨h1, h2, h3⟩
set_option maxRecDepth 100000 in
set_option maxHeartbeats 1000000 in
theorem owns_bad (f : Nat → Int) (r s : Int) (h : okB f = false) (w : World) :
    Calls Tryz.prog 131 #[.agg #[.int .i64 (f 0), .int .i64 (f 1), .int .i64 (f 2), .int .i64 (f 3), .int .i64 (f 4), .int .i64 (f 5), .int .i64 (f 6), .int .i64 (f 7)], nm r s] w fun e w' => e = .returned (.bool false) ∧ Below w.heap.size w w' := by
  have HO := hid h
  clear h
  go_enter Tryz.func131, Tryz.ntmps131
  go_upto_region 1 with fail
  obtain ⟨W, hW⟩ : ∃ W, (w.alloc (.cells #[.int .i64 (f 0), .int .i64 (f 1), .int .i64 (f 2), .int .i64 (f 3), .int .i64 (f 4), .int .i64 (f 5), .int .i64 (f 6), .int .i64 (f 7)] 35)).alloc (.cells #[.int .i64 r, .int .i64 s] 25) = W := ⟨_, rfl⟩
  rw [hW]
  obtain ⟨K0, K1, KB⟩ := att_name hW
  clear hW
  obtain ⟨k, hk⟩ : ∃ k, w.heap.size = k := ⟨_, rfl⟩
  rw [hk] at K0 K1 KB
  rw [hk]
  have HK := hid hk
  clear hk
  refine wp_region_held_drew (S := (fun w' => (w'.cell? ⟨k, 0, none⟩ = some (.int .i64 (f 0)) ∧ w'.cell? ⟨k, 1, none⟩ = some (.int .i64 (f 1)) ∧ w'.cell? ⟨k, 2, none⟩ = some (.int .i64 (f 2)) ∧ w'.cell? ⟨k, 3, none⟩ = some (.int .i64 (f 3)) ∧ w'.cell? ⟨k, 4, none⟩ = some (.int .i64 (f 4)) ∧ w'.cell? ⟨k, 5, none⟩ = some (.int .i64 (f 5)) ∧ w'.cell? ⟨k, 6, none⟩ = some (.int .i64 (f 6)) ∧ w'.cell? ⟨k, 7, none⟩ = some (.int .i64 (f 7))) ∧ w'.cell? ⟨k + 1, 0, none⟩ = some (.int .i64 r) ∧ w'.cell? ⟨k + 1, 1, none⟩ = some (.int .i64 s))) (by kernel_rfl) (by exact ⟨K0.out.drew.eight, (blkn K1.out.drew).1⟩) (fun hHeld => ?_)
  refine wpAnyH_take (i := 0) (oi := _) (v := ?_) rfl (by kernel_rfl) (by kernel_rfl) (by kernel_rfl) (fun _ _ _ h => h) (Or.inl ⟨by kernel_rfl, ?_⟩) hHeld ?_
  rotate_left 1
  focus (intro w' hSw; (try dsimp only at hSw); go_simp; try with_reducible rfl)
  try simp only [Act.put, List.getElem_toArray, List.getElem_cons_zero, List.getElem_cons_succ, List.setIfInBounds_toArray, List.set_cons_zero, List.set_cons_succ]
  refine wpAnyH_ready (rs := [1]) (by kernel_rfl) (by simp) ?_
  refine AllReadyH.cons (o := _) rfl (fun K hK => ?_) AllReadyH.nil
  go_simp
  go_at_call 143
  with_reducible refine (aright8 f _).mono ?_
  rw [HO.out]
  rintro e w1 ⟨rfl, hb1⟩
  have D0 := hid (K0.out.drew.below hb1 K0.out.drew.lt)
  have D1 := hid (K1.out.drew.below hb1 K1.out.drew.lt)
  refine hK.out _ _ (by exact ⟨D0.out.eight, (blkn D1.out).1⟩) (fun hHeld => ?_)
  clear hK K
  try simp only [Act.put, List.getElem_toArray, List.getElem_cons_zero, List.getElem_cons_succ, List.setIfInBounds_toArray, List.set_cons_zero, List.set_cons_succ]
  refine wpAnyH_take (i := 2) (oi := _) (v := ?_) rfl (by kernel_rfl) (by kernel_rfl) (by kernel_rfl) (fun _ _ _ h => h) (Or.inl ⟨by kernel_rfl, ?_⟩) hHeld ?_
  rotate_left 1
  focus (intro w' hSw; (try dsimp only at hSw); go_simp; try with_reducible rfl)
  try simp only [Act.put, List.getElem_toArray, List.getElem_cons_zero, List.getElem_cons_succ, List.setIfInBounds_toArray, List.set_cons_zero, List.set_cons_succ]
  refine wpAnyH_take (i := 3) (oi := _) (v := undef) rfl (by kernel_rfl) (by kernel_rfl) (by kernel_rfl) (fun _ _ _ h => h) (Or.inr ⟨by kernel_rfl, rfl⟩) hHeld ?_
  try simp only [Act.put, List.getElem_toArray, List.getElem_cons_zero, List.getElem_cons_succ, List.setIfInBounds_toArray, List.set_cons_zero, List.set_cons_succ]
  refine wpAnyH_take (i := 4) (oi := _) (v := undef) rfl (by kernel_rfl) (by kernel_rfl) (by kernel_rfl) (fun _ _ _ h => h) (Or.inr ⟨by kernel_rfl, rfl⟩) hHeld ?_
  try simp only [Act.put, List.getElem_toArray, List.getElem_cons_zero, List.getElem_cons_succ, List.setIfInBounds_toArray, List.set_cons_zero, List.set_cons_succ]
  refine wpAnyH_take (i := 5) (oi := _) (v := ?_) rfl (by kernel_rfl) (by kernel_rfl) (by kernel_rfl) (fun _ _ _ h => h) (Or.inl ⟨by kernel_rfl, ?_⟩) hHeld ?_
  rotate_left 1
  focus (intro w' hSw; (try dsimp only at hSw); go_simp; try with_reducible rfl)
  try simp only [Act.put, List.getElem_toArray, List.getElem_cons_zero, List.getElem_cons_succ, List.setIfInBounds_toArray, List.set_cons_zero, List.set_cons_succ]
  refine wpAnyH_take (i := 6) (oi := _) (v := ?_) rfl (by kernel_rfl) (by kernel_rfl) (by kernel_rfl) (fun _ _ _ h => h) (Or.inl ⟨by kernel_rfl, ?_⟩) hHeld ?_
  rotate_left 1
  focus (intro w' hSw; (try dsimp only at hSw); go_simp; try with_reducible rfl)
  try simp only [Act.put, List.getElem_toArray, List.getElem_cons_zero, List.getElem_cons_succ, List.setIfInBounds_toArray, List.set_cons_zero, List.set_cons_succ]
  refine wpAnyH_take (i := 7) (oi := _) (v := undef) rfl (by kernel_rfl) (by kernel_rfl) (by kernel_rfl) (fun _ _ _ h => h) (Or.inr ⟨by kernel_rfl, rfl⟩) hHeld ?_
  try simp only [Act.put, List.getElem_toArray, List.getElem_cons_zero, List.getElem_cons_succ, List.setIfInBounds_toArray, List.set_cons_zero, List.set_cons_succ]
  refine wpAnyH_take (i := 8) (oi := _) (v := undef) rfl (by kernel_rfl) (by kernel_rfl) (by kernel_rfl) (fun _ _ _ h => h) (Or.inr ⟨by kernel_rfl, rfl⟩) hHeld ?_
  try simp only [Act.put, List.getElem_toArray, List.getElem_cons_zero, List.getElem_cons_succ, List.setIfInBounds_toArray, List.set_cons_zero, List.set_cons_succ]
  refine wpAnyH_take (i := 9) (oi := _) (v := undef) rfl (by kernel_rfl) (by kernel_rfl) (by kernel_rfl) (fun _ _ _ h => h) (Or.inr ⟨by kernel_rfl, rfl⟩) hHeld ?_
  try simp only [Act.put, List.getElem_toArray, List.getElem_cons_zero, List.getElem_cons_succ, List.setIfInBounds_toArray, List.set_cons_zero, List.set_cons_succ]
  refine wpAnyH_take (i := 10) (oi := _) (v := undef) rfl (by kernel_rfl) (by kernel_rfl) (by kernel_rfl) (fun _ _ _ h => h) (Or.inr ⟨by kernel_rfl, rfl⟩) hHeld ?_
  try simp only [Act.put, List.getElem_toArray, List.getElem_cons_zero, List.getElem_cons_succ, List.setIfInBounds_toArray, List.set_cons_zero, List.set_cons_succ]
  refine wpAnyH_take (i := 11) (oi := _) (v := undef) rfl (by kernel_rfl) (by kernel_rfl) (by kernel_rfl) (fun _ _ _ h => h) (Or.inr ⟨by kernel_rfl, rfl⟩) hHeld ?_
  try simp only [Act.put, List.getElem_toArray, List.getElem_cons_zero, List.getElem_cons_succ, List.setIfInBounds_toArray, List.set_cons_zero, List.set_cons_succ]
  refine wpAnyH_take (i := 12) (oi := _) (v := undef) rfl (by kernel_rfl) (by kernel_rfl) (by kernel_rfl) (fun _ _ _ h => h) (Or.inr ⟨by kernel_rfl, rfl⟩) hHeld ?_
  try simp only [Act.put, List.getElem_toArray, List.getElem_cons_zero, List.getElem_cons_succ, List.setIfInBounds_toArray, List.set_cons_zero, List.set_cons_succ]
  refine wpAnyH_take (i := 13) (oi := _) (v := undef) rfl (by kernel_rfl) (by kernel_rfl) (by kernel_rfl) (fun _ _ _ h => h) (Or.inr ⟨by kernel_rfl, rfl⟩) hHeld ?_
  try simp only [Act.put, List.getElem_toArray, List.getElem_cons_zero, List.getElem_cons_succ, List.setIfInBounds_toArray, List.set_cons_zero, List.set_cons_succ]
  refine wpAnyH_take (i := 14) (oi := _) (v := undef) rfl (by kernel_rfl) (by kernel_rfl) (by kernel_rfl) (fun _ _ _ h => h) (Or.inr ⟨by kernel_rfl, rfl⟩) hHeld ?_
  try simp only [Act.put, List.getElem_toArray, List.getElem_cons_zero, List.getElem_cons_succ, List.setIfInBounds_toArray, List.set_cons_zero, List.set_cons_succ]
  refine wpAnyH_take (i := 15) (oi := _) (v := ?_) rfl (by kernel_rfl) (by kernel_rfl) (by kernel_rfl) (fun _ _ _ h => h) (Or.inl ⟨by kernel_rfl, ?_⟩) hHeld ?_
  rotate_left 1
  focus (intro w' hSw; (try dsimp only at hSw); go_simp; try with_reducible rfl)
  try simp only [Act.put, List.getElem_toArray, List.getElem_cons_zero, List.getElem_cons_succ, List.setIfInBounds_toArray, List.set_cons_zero, List.set_cons_succ]
  refine wpAnyH_take (i := 16) (oi := _) (v := ?_) rfl (by kernel_rfl) (by kernel_rfl) (by kernel_rfl) (fun _ _ _ h => h) (Or.inl ⟨by kernel_rfl, ?_⟩) hHeld ?_
  rotate_left 1
  focus (intro w' hSw; (try dsimp only at hSw); go_simp; try with_reducible rfl)
  try simp only [Act.put, List.getElem_toArray, List.getElem_cons_zero, List.getElem_cons_succ, List.setIfInBounds_toArray, List.set_cons_zero, List.set_cons_succ]
  refine wpAnyH_done (by kernel_rfl) ?_ _
  go_wp2
  go_ret
  exact ⟨rfl, by rw [HK.out]; exact (below_drew KB.out).trans (hb1.mono (show k ≤ W.heap.size by have := K0.out.lt; omega))⟩
set_option maxRecDepth 100000 in
set_option maxHeartbeats 1000000 in
theorem owns_no (f : Nat → Int) (r s : Int) (h : okB f = true) (h2 : nameB r s = false) (w : World) :
    Calls Tryz.prog 131 #[.agg #[.int .i64 (f 0), .int .i64 (f 1), .int .i64 (f 2), .int .i64 (f 3), .int .i64 (f 4), .int .i64 (f 5), .int .i64 (f 6), .int .i64 (f 7)], nm r s] w fun e w' => e = .returned (.bool false) ∧ Below w.heap.size w w' := by
  have HO := hid h
  have HX := hid h2
  clear h h2
  go_enter Tryz.func131, Tryz.ntmps131
  go_upto_region 1 with fail
  obtain ⟨W, hW⟩ : ∃ W, (w.alloc (.cells #[.int .i64 (f 0), .int .i64 (f 1), .int .i64 (f 2), .int .i64 (f 3), .int .i64 (f 4), .int .i64 (f 5), .int .i64 (f 6), .int .i64 (f 7)] 35)).alloc (.cells #[.int .i64 r, .int .i64 s] 25) = W := ⟨_, rfl⟩
  rw [hW]
  obtain ⟨K0, K1, KB⟩ := att_name hW
  clear hW
  obtain ⟨k, hk⟩ : ∃ k, w.heap.size = k := ⟨_, rfl⟩
  rw [hk] at K0 K1 KB
  rw [hk]
  have HK := hid hk
  clear hk
  refine wp_region_held_drew (S := (fun w' => (w'.cell? ⟨k, 0, none⟩ = some (.int .i64 (f 0)) ∧ w'.cell? ⟨k, 1, none⟩ = some (.int .i64 (f 1)) ∧ w'.cell? ⟨k, 2, none⟩ = some (.int .i64 (f 2)) ∧ w'.cell? ⟨k, 3, none⟩ = some (.int .i64 (f 3)) ∧ w'.cell? ⟨k, 4, none⟩ = some (.int .i64 (f 4)) ∧ w'.cell? ⟨k, 5, none⟩ = some (.int .i64 (f 5)) ∧ w'.cell? ⟨k, 6, none⟩ = some (.int .i64 (f 6)) ∧ w'.cell? ⟨k, 7, none⟩ = some (.int .i64 (f 7))) ∧ w'.cell? ⟨k + 1, 0, none⟩ = some (.int .i64 r) ∧ w'.cell? ⟨k + 1, 1, none⟩ = some (.int .i64 s))) (by kernel_rfl) (by exact ⟨K0.out.drew.eight, (blkn K1.out.drew).1⟩) (fun hHeld => ?_)
  refine wpAnyH_take (i := 0) (oi := _) (v := ?_) rfl (by kernel_rfl) (by kernel_rfl) (by kernel_rfl) (fun _ _ _ h => h) (Or.inl ⟨by kernel_rfl, ?_⟩) hHeld ?_
  rotate_left 1
  focus (intro w' hSw; (try dsimp only at hSw); go_simp; try with_reducible rfl)
  try simp only [Act.put, List.getElem_toArray, List.getElem_cons_zero, List.getElem_cons_succ, List.setIfInBounds_toArray, List.set_cons_zero, List.set_cons_succ]
  refine wpAnyH_ready (rs := [1]) (by kernel_rfl) (by simp) ?_
  refine AllReadyH.cons (o := _) rfl (fun K hK => ?_) AllReadyH.nil
  go_simp
  go_at_call 143
  with_reducible refine (aright8 f _).mono ?_
  rw [HO.out]
  rintro e w1 ⟨rfl, hb1⟩
  have D0 := hid (K0.out.drew.below hb1 K0.out.drew.lt)
  have D1 := hid (K1.out.drew.below hb1 K1.out.drew.lt)
  refine hK.out _ _ (by exact ⟨D0.out.eight, (blkn D1.out).1⟩) (fun hHeld => ?_)
  clear hK K
  try simp only [Act.put, List.getElem_toArray, List.getElem_cons_zero, List.getElem_cons_succ, List.setIfInBounds_toArray, List.set_cons_zero, List.set_cons_succ]
  refine wpAnyH_take (i := 2) (oi := _) (v := ?_) rfl (by kernel_rfl) (by kernel_rfl) (by kernel_rfl) (fun _ _ _ h => h) (Or.inl ⟨by kernel_rfl, ?_⟩) hHeld ?_
  rotate_left 1
  focus (intro w' hSw; (try dsimp only at hSw); go_simp; try with_reducible rfl)
  try simp only [Act.put, List.getElem_toArray, List.getElem_cons_zero, List.getElem_cons_succ, List.setIfInBounds_toArray, List.set_cons_zero, List.set_cons_succ]
  refine wpAnyH_take (i := 3) (oi := _) (v := ?_) rfl (by kernel_rfl) (by kernel_rfl) (by kernel_rfl) (fun _ _ _ h => h) (Or.inl ⟨by kernel_rfl, ?_⟩) hHeld ?_
  rotate_left 1
  focus (intro w' hSw; (try dsimp only at hSw); go_simp; try with_reducible rfl)
  try simp only [Act.put, List.getElem_toArray, List.getElem_cons_zero, List.getElem_cons_succ, List.setIfInBounds_toArray, List.set_cons_zero, List.set_cons_succ]
  refine wpAnyH_ready (rs := [4]) (by kernel_rfl) (by simp) ?_
  refine AllReadyH.cons (o := _) rfl (fun K hK => ?_) AllReadyH.nil
  go_simp
  go_at_call 73
  with_reducible refine (nright_any r s _).mono ?_
  rw [HX.out]
  rintro e w2 ⟨rfl, hb2⟩
  have E0 := hid (D0.out.below hb2 D0.out.lt)
  have E1 := hid (D1.out.below hb2 D1.out.lt)
  refine hK.out _ _ (by exact ⟨E0.out.eight, (blkn E1.out).1⟩) (fun hHeld => ?_)
  clear hK K
  try simp only [Act.put, List.getElem_toArray, List.getElem_cons_zero, List.getElem_cons_succ, List.setIfInBounds_toArray, List.set_cons_zero, List.set_cons_succ]
  refine wpAnyH_take (i := 5) (oi := _) (v := ?_) rfl (by kernel_rfl) (by kernel_rfl) (by kernel_rfl) (fun _ _ _ h => h) (Or.inl ⟨by kernel_rfl, ?_⟩) hHeld ?_
  rotate_left 1
  focus (intro w' hSw; (try dsimp only at hSw); go_simp; try with_reducible rfl)
  try simp only [Act.put, List.getElem_toArray, List.getElem_cons_zero, List.getElem_cons_succ, List.setIfInBounds_toArray, List.set_cons_zero, List.set_cons_succ]
  refine wpAnyH_take (i := 6) (oi := _) (v := ?_) rfl (by kernel_rfl) (by kernel_rfl) (by kernel_rfl) (fun _ _ _ h => h) (Or.inl ⟨by kernel_rfl, ?_⟩) hHeld ?_
  rotate_left 1
  focus (intro w' hSw; (try dsimp only at hSw); go_simp; try with_reducible rfl)
  try simp only [Act.put, List.getElem_toArray, List.getElem_cons_zero, List.getElem_cons_succ, List.setIfInBounds_toArray, List.set_cons_zero, List.set_cons_succ]
  refine wpAnyH_take (i := 7) (oi := _) (v := undef) rfl (by kernel_rfl) (by kernel_rfl) (by kernel_rfl) (fun _ _ _ h => h) (Or.inr ⟨by kernel_rfl, rfl⟩) hHeld ?_
  try simp only [Act.put, List.getElem_toArray, List.getElem_cons_zero, List.getElem_cons_succ, List.setIfInBounds_toArray, List.set_cons_zero, List.set_cons_succ]
  refine wpAnyH_take (i := 8) (oi := _) (v := undef) rfl (by kernel_rfl) (by kernel_rfl) (by kernel_rfl) (fun _ _ _ h => h) (Or.inr ⟨by kernel_rfl, rfl⟩) hHeld ?_
  try simp only [Act.put, List.getElem_toArray, List.getElem_cons_zero, List.getElem_cons_succ, List.setIfInBounds_toArray, List.set_cons_zero, List.set_cons_succ]
  refine wpAnyH_take (i := 9) (oi := _) (v := undef) rfl (by kernel_rfl) (by kernel_rfl) (by kernel_rfl) (fun _ _ _ h => h) (Or.inr ⟨by kernel_rfl, rfl⟩) hHeld ?_
  try simp only [Act.put, List.getElem_toArray, List.getElem_cons_zero, List.getElem_cons_succ, List.setIfInBounds_toArray, List.set_cons_zero, List.set_cons_succ]
  refine wpAnyH_take (i := 10) (oi := _) (v := undef) rfl (by kernel_rfl) (by kernel_rfl) (by kernel_rfl) (fun _ _ _ h => h) (Or.inr ⟨by kernel_rfl, rfl⟩) hHeld ?_
  try simp only [Act.put, List.getElem_toArray, List.getElem_cons_zero, List.getElem_cons_succ, List.setIfInBounds_toArray, List.set_cons_zero, List.set_cons_succ]
  refine wpAnyH_take (i := 11) (oi := _) (v := undef) rfl (by kernel_rfl) (by kernel_rfl) (by kernel_rfl) (fun _ _ _ h => h) (Or.inr ⟨by kernel_rfl, rfl⟩) hHeld ?_
  try simp only [Act.put, List.getElem_toArray, List.getElem_cons_zero, List.getElem_cons_succ, List.setIfInBounds_toArray, List.set_cons_zero, List.set_cons_succ]
  refine wpAnyH_take (i := 12) (oi := _) (v := undef) rfl (by kernel_rfl) (by kernel_rfl) (by kernel_rfl) (fun _ _ _ h => h) (Or.inr ⟨by kernel_rfl, rfl⟩) hHeld ?_
  try simp only [Act.put, List.getElem_toArray, List.getElem_cons_zero, List.getElem_cons_succ, List.setIfInBounds_toArray, List.set_cons_zero, List.set_cons_succ]
  refine wpAnyH_take (i := 13) (oi := _) (v := undef) rfl (by kernel_rfl) (by kernel_rfl) (by kernel_rfl) (fun _ _ _ h => h) (Or.inr ⟨by kernel_rfl, rfl⟩) hHeld ?_
  try simp only [Act.put, List.getElem_toArray, List.getElem_cons_zero, List.getElem_cons_succ, List.setIfInBounds_toArray, List.set_cons_zero, List.set_cons_succ]
  refine wpAnyH_take (i := 14) (oi := _) (v := undef) rfl (by kernel_rfl) (by kernel_rfl) (by kernel_rfl) (fun _ _ _ h => h) (Or.inr ⟨by kernel_rfl, rfl⟩) hHeld ?_
  try simp only [Act.put, List.getElem_toArray, List.getElem_cons_zero, List.getElem_cons_succ, List.setIfInBounds_toArray, List.set_cons_zero, List.set_cons_succ]
  refine wpAnyH_take (i := 15) (oi := _) (v := ?_) rfl (by kernel_rfl) (by kernel_rfl) (by kernel_rfl) (fun _ _ _ h => h) (Or.inl ⟨by kernel_rfl, ?_⟩) hHeld ?_
  rotate_left 1
  focus (intro w' hSw; (try dsimp only at hSw); go_simp; try with_reducible rfl)
  try simp only [Act.put, List.getElem_toArray, List.getElem_cons_zero, List.getElem_cons_succ, List.setIfInBounds_toArray, List.set_cons_zero, List.set_cons_succ]
  refine wpAnyH_take (i := 16) (oi := _) (v := ?_) rfl (by kernel_rfl) (by kernel_rfl) (by kernel_rfl) (fun _ _ _ h => h) (Or.inl ⟨by kernel_rfl, ?_⟩) hHeld ?_
  rotate_left 1
  focus (intro w' hSw; (try dsimp only at hSw); go_simp; try with_reducible rfl)
  try simp only [Act.put, List.getElem_toArray, List.getElem_cons_zero, List.getElem_cons_succ, List.setIfInBounds_toArray, List.set_cons_zero, List.set_cons_succ]
  refine wpAnyH_done (by kernel_rfl) ?_ _
  go_wp2
  go_ret
  exact ⟨rfl, by rw [HK.out]; exact ((below_drew KB.out).trans (hb1.mono (show k ≤ W.heap.size by have := K0.out.lt; omega))).trans (hb2.mono (by have := D0.out.lt; omega))⟩
set_option maxRecDepth 100000 in
set_option maxHeartbeats 1000000 in
theorem owns_yes (f : Nat → Int) (a b : Nat) (ha : a < 7) (hb : b < 1024) (h : okB f = true) (h2 : nameB a b = true) (w : World) :
    Calls Tryz.prog 131 #[.agg #[.int .i64 (f 0), .int .i64 (f 1), .int .i64 (f 2), .int .i64 (f 3), .int .i64 (f 4), .int .i64 (f 5), .int .i64 (f 6), .int .i64 (f 7)], nm a b] w fun e w' => e = .returned (.bool (decide (f (1 + a) = (b : Int)))) ∧ Below w.heap.size w w' := by
  have HO := hid h
  have HX := hid h2
  clear h h2
  go_enter Tryz.func131, Tryz.ntmps131
  go_upto_region 1 with fail
  obtain ⟨W, hW⟩ : ∃ W, (w.alloc (.cells #[.int .i64 (f 0), .int .i64 (f 1), .int .i64 (f 2), .int .i64 (f 3), .int .i64 (f 4), .int .i64 (f 5), .int .i64 (f 6), .int .i64 (f 7)] 35)).alloc (.cells #[.int .i64 (a : Int), .int .i64 (b : Int)] 25) = W := ⟨_, rfl⟩
  rw [hW]
  obtain ⟨K0, K1, KB⟩ := att_name hW
  clear hW
  obtain ⟨k, hk⟩ : ∃ k, w.heap.size = k := ⟨_, rfl⟩
  rw [hk] at K0 K1 KB
  rw [hk]
  have HK := hid hk
  clear hk
  have HI : Hid (∀ w' : World, Blk w' k 35 (rowA f) → w'.cell? ⟨k, 1 + a, none⟩ = some (.int .i64 (f (1 + a)))) := hid (fun w' h => h.att (by omega))
  obtain ⟨x, hx⟩ : ∃ x, f (1 + a) = x := ⟨_, rfl⟩
  rw [hx] at HI
  have HQ := hid hx
  clear hx
  have ha' : (a : Int) < 7 := by omega
  go_region_held3 (fun w' => (w'.cell? ⟨k, 0, none⟩ = some (.int .i64 (f 0)) ∧ w'.cell? ⟨k, 1, none⟩ = some (.int .i64 (f 1)) ∧ w'.cell? ⟨k, 2, none⟩ = some (.int .i64 (f 2)) ∧ w'.cell? ⟨k, 3, none⟩ = some (.int .i64 (f 3)) ∧ w'.cell? ⟨k, 4, none⟩ = some (.int .i64 (f 4)) ∧ w'.cell? ⟨k, 5, none⟩ = some (.int .i64 (f 5)) ∧ w'.cell? ⟨k, 6, none⟩ = some (.int .i64 (f 6)) ∧ w'.cell? ⟨k, 7, none⟩ = some (.int .i64 (f 7))) ∧ w'.cell? ⟨k + 1, 0, none⟩ = some (.int .i64 (a : Int)) ∧ w'.cell? ⟨k + 1, 1, none⟩ = some (.int .i64 (b : Int)) ∧ w'.cell? ⟨k, 1 + a, none⟩ = some (.int .i64 x))
    (first | exact ⟨K0.out.eight, (blkn K1.out).1.1, (blkn K1.out).1.2, HI.out _ K0.out⟩ | exact ⟨K0.out.drew.eight, (blkn K1.out.drew).1.1, (blkn K1.out.drew).1.2, HI.out _ K0.out.drew⟩ | exact ⟨D0.out.eight, (blkn D1.out).1.1, (blkn D1.out).1.2, HI.out _ D0.out⟩ | exact ⟨E0.out.eight, (blkn E1.out).1.1, (blkn E1.out).1.2, HI.out _ E0.out⟩)
    (first
      | (go_at_call 143; (with_reducible refine (aright8 f _).mono ?_); rw [HO.out]; rintro e w1 ⟨rfl, hb1⟩; have D0 := hid (K0.out.drew.below hb1 K0.out.drew.lt); have D1 := hid (K1.out.drew.below hb1 K1.out.drew.lt))
      | (go_at_call 73; (with_reducible refine (nright_any a b _).mono ?_); rw [HX.out]; rintro e w2 ⟨rfl, hb2⟩; have E0 := hid (D0.out.below hb2 D0.out.lt); have E1 := hid (D1.out.below hb2 D1.out.lt)))
  rename_i hHeld
  clear hHeld
  have HE := hid (((below_drew KB.out).trans (hb1.mono (show k ≤ W.heap.size by have := K0.out.lt; omega))).trans (hb2.mono (by have := D0.out.lt; omega)))
  clear hb1 hb2 HI
  go_wp2
  go_ret
  exact ⟨ret_bool (by rw [HQ.out, Bool.eq_iff_iff]; simp), by rw [HK.out]; exact HE.out⟩
theorem owns8 (f : Nat → Int) (r s : Int) (w : World) :
    Calls Tryz.prog 131 #[.agg #[.int .i64 (f 0), .int .i64 (f 1), .int .i64 (f 2), .int .i64 (f 3), .int .i64 (f 4), .int .i64 (f 5), .int .i64 (f 6), .int .i64 (f 7)], nm r s] w fun e w' => e = .returned (.bool (ownB f r s)) ∧ Below w.heap.size w w' := by
  cases h0 : okB f
  · have e : ownB f r s = false := by unfold ownB; rw [h0]; rfl
    rw [e]; exact owns_bad f r s h0 w
  · cases h : nameB r s
    · have e : ownB f r s = false := by unfold ownB; rw [h, h0]; rfl
      rw [e]; exact owns_no f r s h0 h w
    · obtain ⟨a, b, rfl, rfl, ha, hb, _⟩ := name_in h
      have e : ownB f a b = decide (f (1 + a) = (b : Int)) := by unfold ownB; rw [h, h0]; simp
      rw [e]; exact owns_yes f a b ha hb h0 h w
end Go.Proofs.YtohffiehmmcgbaaGreatDoor
namespace Go.Proofs.YtohffiehmmcgbaaGreatDoor
open Go.ChangeShapes Go.WideShapes Go.ChangeAt Go.RowKit
set_option linter.unusedVariables false
set_option linter.unusedSimpArgs false
end Go.Proofs.YtohffiehmmcgbaaGreatDoor
namespace Go.Proofs.YtohffiehmmcgbaaGreatDoor
structure J where
  r : Int
  s : Int
  st : Int
  bal : Int
  vote : Int
  same : Bool
  c : K
  f : Nat → Int
abbrev zeroK : K := ⟨0, 0, ⟨#[]⟩, 0, ⟨#[]⟩, 0, 0, 0⟩
def okJ (x : J) : Prop := (0 ≤ x.bal ∧ x.bal < 4294967296) ∧ 0 ≤ x.vote ∧ x.vote < 4294967296
def zeroJ : J := ⟨0, 0, 0, 0, 0, false, zeroK, fun _ => 0⟩
def eqJ (x y : J) : Bool := (x.r == y.r && x.s == y.s) && ((x.st == y.st) && ((x.bal == y.bal) && ((x.vote == y.vote) && ((x.same == y.same) && (decide (x.c = y.c) && eqA x.f y.f)))))
def balB (b : Int) : Bool := ballotB b.toNat
def emptyJ (x : J) : J := ⟨x.r, x.s, 0, x.bal, 0, false, zeroK, fun _ => 0⟩
def newJ (r s : Int) : J := ⟨r, s, 0, 0, 0, false, zeroK, fun _ => 0⟩
def maySame (x : J) : Bool := x.st == 1 && x.vote == 0
def statB (n : Int) : Bool := decide (0 ≤ n ∧ n < 4)
def valB (x : J) : Bool := balB x.vote && decide (x.vote ≤ x.bal) && (!x.same || maySame x) && rightK x.c && ownB x.f x.r x.s
def rightJ (x : J) : Bool := nameB x.r x.s && balB x.bal && (if x.st = 0 then eqJ x (emptyJ x) else statB x.st && valB x)
end Go.Proofs.YtohffiehmmcgbaaGreatDoor
namespace Go.Proofs.YtohffiehmmcgbaaGreatDoor
open Go.RowKit
theorem info_u8 : (Tryz.prog.info? 5).map (fun i => (i.zero, i.size, i.bytes)) = some (some (.int .u8 0), 1, 1) := by kernel_rfl
theorem one_at {w : World} {x : Value} (E : TypeId) : ∀ j u, [x][j]? = some u → (w.alloc (.cells #[x] E)).cell? ((⟨w.heap.size, 0, none⟩ : Addr).add j) = some u := by
  intro j u hj
  match j, hj with
  | 0, hj => simp at hj; subst hj; simp [Addr.add]
theorem one_cell {k : IntKind} {x : Int} : ∀ u ∈ [Value.int k x], u.oneCell' = true := by
  intro u hu; simp at hu; subst hu; rfl
def Makes (l : List Nat) (w : World) (e : Ending) (w' : World) : Prop :=
  ∃ s, e = .returned s ∧ w'.ownsRow w.heap.size 5 1 s l.length (l.map bv) ∧ Below w.heap.size w w'
theorem below_append {base : Nat} {w wr w1 : World} {s : Value} {n : Nat} {xs : List Value} {E : TypeId} {o : Obj} (hb : Below base w wr) (hsz : base ≤ wr.heap.size)
    (hown : wr.ownsRow base E 1 s n xs) (hg : (wr.alloc o).grownBy w1 s.ownBlock) : Below base w w1 :=
  (hb.alloc hsz o).grown hg (by simp; omega) (fun k hk => (hown.lt k hk).1)
def Hands (l : List Nat) (w : World) (e : Ending) (w' : World) : Prop :=
  ∃ A cap, e = .returned (.slice A l.length cap) ∧ (A = none → cap = 0) ∧ l.length ≤ cap ∧ Sees .u8 w' A l ∧ Below w.heap.size w w'
theorem Makes.hands {l : List Nat} {w : World} {e : Ending} {w' : World} (h : Makes l w e w') : Hands l w e w' := by
  obtain ⟨s, rfl, hown, hb⟩ := h
  rcases hown.2 with ⟨rfl, h0⟩ | ⟨g, cap, cur, rfl, _, _, hc, _⟩
  · have : l = [] := List.eq_nil_of_length_eq_zero h0
    subst this
    exact ⟨none, 0, rfl, fun _ => rfl, Nat.le_refl _, Sees.nil _ _ _, hb⟩
  · exact ⟨_, cap, rfl, fun h => (by cases h), hc, Sees.of_own hown, hb⟩
end Go.Proofs.YtohffiehmmcgbaaGreatDoor
namespace Go.Proofs.YtohffiehmmcgbaaGreatDoor
open Go.ChangeShapes Go.WideShapes Go.ChangeAt Go.RowKit Go.Lib
abbrev val (c : K) : Value := .agg #[.int .i64 c.kind, .int .u64 c.num, .string c.foot, .int .u64 c.req, .string c.path, .int .i64 c.mode, .int .u64 c.n, .int .i64 c.time]
abbrev cellsOf (c : K) : Array Value := #[.int .i64 c.kind, .int .u64 c.num, .string c.foot, .int .u64 c.req, .string c.path, .int .i64 c.mode, .int .u64 c.n, .int .i64 c.time]
theorem var_below {P : Program} {w w' : World} {n : String} {cs : Array Value} (h : w.var? P n = some cs) (hb : Below w.heap.size w w') : w'.var? P n = some cs := by
  unfold World.var? at h ⊢
  cases hg : P.globalNamed n with
  | none => rw [hg] at h; cases h
  | some g =>
    rw [hg] at h
    simp only [Option.bind_some] at h ⊢
    rcases Nat.lt_or_ge g w.heap.size with hlt | hge
    · rw [hb.block g hlt]; exact h
    · rw [Array.getElem?_eq_none hge] at h; cases h
def pts : List Int := [0, 51, 3, 35, 15, 15, 7, 23, 33]
def ptsV : Array Value := (pts.map fun x => Value.int .u8 x).toArray
def PartsIs (w : World) : Prop := w.var? Tryz.prog "moothill/cmd.parts" = some ptsV
theorem PartsIs.below {w w' : World} (h : PartsIs w) (hb : Below w.heap.size w w') : PartsIs w' := var_below h hb
theorem PartsIs.drew {w : World} (h : PartsIs w) : PartsIs w.drew := h
theorem PartsIs.drewN {w : World} (h : PartsIs w) (n : Nat) : PartsIs (w.drewN n) := h
theorem PartsIs.alloc {w : World} (h : PartsIs w) (o : Obj) : PartsIs (w.alloc o) := h.below ((Below.refl _ _).alloc (Nat.le_refl _) o)
theorem gParts : Tryz.prog.globalNamed "moothill/cmd.parts" = some 3 := by kernel_rfl
theorem PartsIs.cell {w : World} (h : PartsIs w) (i : Nat) : w.cell? ⟨3, i, none⟩ = ptsV[i]? := World.var?_cell gParts h i
def hasP (p k : Int) : Bool := if p = 1 then h0 k else if p = 2 then h1 k else if p = 4 then h2 k else if p = 8 then h3 k else if p = 16 then h4 k else h5 k
def pt (k : Nat) : Int := pts.getD k 0
theorem pts_get (k : Nat) (h : k < 9) : ptsV[k]? = some (.int .u8 (pt k)) := by
  have : k = 0 ∨ k = 1 ∨ k = 2 ∨ k = 3 ∨ k = 4 ∨ k = 5 ∨ k = 6 ∨ k = 7 ∨ k = 8 := by omega
  rcases this with rfl | rfl | rfl | rfl | rfl | rfl | rfl | rfl | rfl <;> rfl
theorem pts_has (p : Int) (k : Nat) (h : k < 9) (hp : p = 1 ∨ p = 2 ∨ p = 4 ∨ p = 8 ∨ p = 16 ∨ p = 32) : (bits .and .u8 (pt k) p != 0) = hasP p (k : Int) := by
  have : k = 0 ∨ k = 1 ∨ k = 2 ∨ k = 3 ∨ k = 4 ∨ k = 5 ∨ k = 6 ∨ k = 7 ∨ k = 8 := by omega
  rcases this with rfl | rfl | rfl | rfl | rfl | rfl | rfl | rfl | rfl <;> rcases hp with rfl | rfl | rfl | rfl | rfl | rfl <;> decide
theorem hasP_off (p k : Int) (h : isK k = false) : hasP p k = false := by
  unfold isK at h
  rw [decide_eq_false_iff_not] at h
  unfold hasP
  repeat' split
  all_goals first | (unfold h0; exact decide_eq_false (by omega)) | (unfold h1; exact decide_eq_false (by omega)) | (unfold h2; exact decide_eq_false (by omega)) | (unfold h3; exact decide_eq_false (by omega)) | (unfold h4; exact decide_eq_false (by omega)) | (unfold h5; exact decide_eq_false (by omega))
set_option maxRecDepth 100000 in
set_option maxHeartbeats 400000 in
theorem iskind_any (k : Int) (w : World) : Calls Tryz.prog 112 #[.int .i64 k] w fun e w' => e = .returned (.bool (isK k)) ∧ w = w' := by
  go_enter Tryz.func112, Tryz.ntmps112
  go_wp2
  all_goals go_ret
  all_goals exact ⟨ret_bool (by unfold isK; rw [Bool.eq_iff_iff]; simp; try omega), rfl⟩
set_option maxRecDepth 100000 in
set_option maxHeartbeats 400000 in
theorem has_as (c : K) (p : Int) (b : Bool) (w : World) (hp : p = 1 ∨ p = 2 ∨ p = 4 ∨ p = 8 ∨ p = 16 ∨ p = 32) (hb : hasP p c.kind = b) (hP : PartsIs w) :
    Calls Tryz.prog 62 #[val c, .int .u8 p] w fun e w' => e = .returned (.bool b) ∧ Below w.heap.size w w' := by
  obtain ⟨k, u, f, q, s, m, n, t⟩ := c
  simp only at hb ⊢
  subst hb
  cases hk : isK k
  · rw [hasP_off p k hk]
    have HK := hid hk
    clear hk hP hp
    go_enter Tryz.func62, Tryz.ntmps62
    go_wp2_with fail
    with_reducible refine (iskind_any k _).mono ?_
    rintro e w' ⟨rfl, rfl⟩
    rw [HK.out]
    go_wp2
    go_ret
    exact ⟨rfl, (Below.refl _ _).alloc (Nat.le_refl _) _⟩
  · have HK := hid hk
    obtain ⟨i, rfl, hi⟩ : ∃ i : Nat, k = (i : Int) ∧ i < 9 := by
      unfold isK at hk
      rw [decide_eq_true_eq] at hk
      exact ⟨k.toNat, by omega, by omega⟩
    have HH := hid (pts_has p i hi hp)
    have HG := hid ((PartsIs.alloc hP (.cells (cellsOf ⟨i, u, f, q, s, m, n, t⟩) 32)).cell i)
    have hg := (HG.out.trans (pts_get i hi))
    clear hk hP hp HG
    go_enter Tryz.func62, Tryz.ntmps62
    go_wp2_with fail
    with_reducible refine (iskind_any i _).mono ?_
    rintro e w' ⟨rfl, rfl⟩
    rw [HK.out]
    go_wp2
    go_ret
    exact ⟨ret_bool HH.out, (Below.refl _ _).alloc (Nat.le_refl _) _⟩
theorem has_0 (c : K) (b : Bool) (w : World) (hb : h0 c.kind = b) (hP : PartsIs w) :
    Calls Tryz.prog 62 #[val c, .int .u8 1] w fun e w' => e = .returned (.bool b) ∧ Below w.heap.size w w' := has_as c 1 b w (by decide) hb hP
theorem has_1 (c : K) (b : Bool) (w : World) (hb : h1 c.kind = b) (hP : PartsIs w) :
    Calls Tryz.prog 62 #[val c, .int .u8 2] w fun e w' => e = .returned (.bool b) ∧ Below w.heap.size w w' := has_as c 2 b w (by decide) hb hP
theorem has_2 (c : K) (b : Bool) (w : World) (hb : h2 c.kind = b) (hP : PartsIs w) :
    Calls Tryz.prog 62 #[val c, .int .u8 4] w fun e w' => e = .returned (.bool b) ∧ Below w.heap.size w w' := has_as c 4 b w (by decide) hb hP
theorem has_3 (c : K) (b : Bool) (w : World) (hb : h3 c.kind = b) (hP : PartsIs w) :
    Calls Tryz.prog 62 #[val c, .int .u8 8] w fun e w' => e = .returned (.bool b) ∧ Below w.heap.size w w' := has_as c 8 b w (by decide) hb hP
theorem has_4 (c : K) (b : Bool) (w : World) (hb : h4 c.kind = b) (hP : PartsIs w) :
    Calls Tryz.prog 62 #[val c, .int .u8 16] w fun e w' => e = .returned (.bool b) ∧ Below w.heap.size w w' := has_as c 16 b w (by decide) hb hP
theorem has_5 (c : K) (b : Bool) (w : World) (hb : h5 c.kind = b) (hP : PartsIs w) :
    Calls Tryz.prog 62 #[val c, .int .u8 32] w fun e w' => e = .returned (.bool b) ∧ Below w.heap.size w w' := has_as c 32 b w (by decide) hb hP
def Boxed (w0 w : World) (g : Nat) (c : K) : Prop := Blk w g 32 (cellsOf c) ∧ w0.heap.size ≤ g ∧ Below w0.heap.size w0 w ∧ PartsIs w0
theorem Boxed.parts {w0 w : World} {g : Nat} {c : K} (h : Boxed w0 w g c) : PartsIs w := h.2.2.2.below h.2.2.1
theorem Boxed.lt {w0 w : World} {g : Nat} {c : K} (h : Boxed w0 w g c) : g < w.heap.size := h.1.lt
theorem Boxed.below {w0 w : World} {g : Nat} {c : K} (h : Boxed w0 w g c) : Below w0.heap.size w0 w := h.2.2.1
theorem Boxed.on {w0 w w' : World} {g : Nat} {c : K} (h : Boxed w0 w g c) (hb : Below w.heap.size w w') : Boxed w0 w' g c :=
  ⟨h.1.below hb h.1.lt, h.2.1, h.2.2.1.trans (hb.mono h.2.2.1.size), h.2.2.2⟩
theorem Boxed.drew {w0 w : World} {g : Nat} {c : K} (h : Boxed w0 w g c) : Boxed w0 w.drew g c := ⟨h.1.drew, h.2.1, below_drew h.2.2.1, h.2.2.2⟩
theorem Boxed.alloc {w0 w : World} {g : Nat} {c : K} (h : Boxed w0 w g c) (o : Obj) : Boxed w0 (w.alloc o) g c := h.on ((Below.refl _ _).alloc (Nat.le_refl _) o)
theorem Boxed.far {w0 w : World} {g : Nat} {c : K} (h : Boxed w0 w g c) {p : Addr} (hp : g ≠ p.block) (h0 : w0.heap.size ≤ p.block) (u : Value) : Boxed w0 (w.setCell p u) g c :=
  ⟨h.1.far hp u, h.2.1, Below.setCell (p := p) h.2.2.1 h0 u, h.2.2.2⟩
theorem Boxed.start {w : World} (h : PartsIs w) (c : K) : Boxed w (w.alloc (.cells (cellsOf c) 32)) w.heap.size c :=
  ⟨Blk.new _ _ _, Nat.le_refl _, (Below.refl _ _).alloc (Nat.le_refl _) _, h⟩
theorem Boxed.set_ {w0 w : World} {g : Nat} {c : K} (h : Boxed w0 w g c) (i : Nat) (u : Value) (c' : K) (hc : (cellsOf c).setIfInBounds i u = cellsOf c') : Boxed w0 (w.setCell ⟨g, i, none⟩ u) g c' :=
  ⟨hc ▸ h.1.set_ i u, h.2.1, Below.setCell (p := ⟨g, i, none⟩) h.2.2.1 h.2.1 u, h.2.2.2⟩
theorem cells8 {w : World} {g : Nat} {T : TypeId} {a b c d e f x y : Value} (h : Blk w g T #[a, b, c, d, e, f, x, y]) :
    (w.cell? ⟨g, 0, none⟩ = some a ∧ w.cell? ⟨g, 1, none⟩ = some b ∧ w.cell? ⟨g, 2, none⟩ = some c ∧ w.cell? ⟨g, 3, none⟩ = some d ∧ w.cell? ⟨g, 4, none⟩ = some e ∧ w.cell? ⟨g, 5, none⟩ = some f ∧ w.cell? ⟨g, 6, none⟩ = some x ∧ w.cell? ⟨g, 7, none⟩ = some y) ∧
    w.frozen? ⟨g, 0, none⟩ = false ∧ w.frozen? ⟨g, 1, none⟩ = false ∧ w.frozen? ⟨g, 2, none⟩ = false ∧ w.frozen? ⟨g, 3, none⟩ = false ∧ w.frozen? ⟨g, 4, none⟩ = false ∧ w.frozen? ⟨g, 5, none⟩ = false ∧ w.frozen? ⟨g, 6, none⟩ = false ∧ w.frozen? ⟨g, 7, none⟩ = false :=
  ⟨⟨(h.cell 0).trans rfl, (h.cell 1).trans rfl, (h.cell 2).trans rfl, (h.cell 3).trans rfl, (h.cell 4).trans rfl, (h.cell 5).trans rfl, (h.cell 6).trans rfl, (h.cell 7).trans rfl⟩, h.frozen 0, h.frozen 1, h.frozen 2, h.frozen 3, h.frozen 4, h.frozen 5, h.frozen 6, h.frozen 7⟩
set_option maxRecDepth 100000 in
set_option maxHeartbeats 400000 in
theorem mostn_any (c : K) (w : World) : Calls Tryz.prog 148 #[val c] w fun e w' => e = .returned (.int .u64 (mostN c.kind)) ∧ Below w.heap.size w w' := by
  obtain ⟨k, u, f, q, s, m, n, t⟩ := c
  rcases Decidable.em (k = 1) with h | h
  · subst h
    go_enter Tryz.func148, Tryz.ntmps148
    go_wp2
    go_ret
    exact ⟨rfl, (Below.refl _ _).alloc (Nat.le_refl _) _⟩
  · have hb : (k == 1) = false := beq_eq_false_iff_ne.2 h
    have H : Hid (mostN k = 9223372036854775807) := hid (if_neg h)
    go_enter Tryz.func148, Tryz.ntmps148
    go_wp2
    go_ret
    exact ⟨by rw [H.out]; rfl, (Below.refl _ _).alloc (Nat.le_refl _) _⟩
abbrev putK (w : World) (g : Nat) (c : K) : World := (((((((w.setCell ⟨g, 0, none⟩ (.int .i64 c.kind)).setCell ⟨g, 1, none⟩ (.int .u64 c.num)).setCell ⟨g, 2, none⟩ (.string c.foot)).setCell ⟨g, 3, none⟩ (.int .u64 c.req)).setCell ⟨g, 4, none⟩ (.string c.path)).setCell ⟨g, 5, none⟩ (.int .i64 c.mode)).setCell ⟨g, 6, none⟩ (.int .u64 c.n)).setCell ⟨g, 7, none⟩ (.int .i64 c.time)
theorem Boxed.put {w0 w : World} {g : Nat} {c : K} (h : Boxed w0 w g c) (d : K) : Boxed w0 (putK w g d) g d := by
  obtain ⟨k, u, f, q, s, m, n, t⟩ := c
  obtain ⟨k', u', f', q', s', m', n', t'⟩ := d
  exact (((((((h.set_ 0 (.int .i64 k') ⟨k', u, f, q, s, m, n, t⟩ rfl).set_ 1 (.int .u64 u') ⟨k', u', f, q, s, m, n, t⟩ rfl).set_ 2 (.string f') ⟨k', u', f', q, s, m, n, t⟩ rfl).set_ 3 (.int .u64 q') ⟨k', u', f', q', s, m, n, t⟩ rfl).set_ 4 (.string s') ⟨k', u', f', q', s', m, n, t⟩ rfl).set_ 5 (.int .i64 m') ⟨k', u', f', q', s', m', n, t⟩ rfl).set_ 6 (.int .u64 n') ⟨k', u', f', q', s', m', n', t⟩ rfl).set_ 7 (.int .i64 t') ⟨k', u', f', q', s', m', n', t'⟩ rfl
end Go.Proofs.YtohffiehmmcgbaaGreatDoor
namespace Go.Proofs.YtohffiehmmcgbaaGreatDoor
open Go.ChangeShapes Go.WideShapes Go.ChangeAt Go.RowKit Go.Lib
theorem bytes_eq (a b : ByteArray) : (a.toList == b.toList) = decide (a = b) := by
  rw [toList_L, toList_L]
  by_cases h : a = b
  · subst h; simp
  · rw [decide_eq_false h, beq_eq_false_iff_ne]
    exact fun e => h (L_inj.1 e)
theorem eq_sess (u : Int) (f : ByteArray) (u2 : Int) (f2 : ByteArray) (w : World) :
    (Op.equalIn 9999 30 (.agg #[.int .u64 u, .string f]) (.agg #[.int .u64 u2, .string f2])).run Tryz.prog w = .ok (u == u2 && decide (f = f2)) w := by
  have ht : Tryz.prog.underlying 30 = some (.struct (Tryz.prog.fieldsOf 30)) := by kernel_rfl
  have hp : Tryz.prog.stoodInHeld 30 = false := by kernel_rfl
  rw [run_equalIn_struct w 9998 _ _ _ ht hp]
  have p1 := run_part_plain (P := Tryz.prog) (w := w) (e := 28) (by kernel_rfl) (xs := #[.int .u64 u, .string f]) (off := 0) rfl
  have p2 := run_part_plain (P := Tryz.prog) (w := w) (e := 9) (by kernel_rfl) (xs := #[.int .u64 u, .string f]) (off := 1) rfl
  have p3 := run_part_plain (P := Tryz.prog) (w := w) (e := 28) (by kernel_rfl) (xs := #[.int .u64 u2, .string f2]) (off := 0) rfl
  have p4 := run_part_plain (P := Tryz.prog) (w := w) (e := 9) (by kernel_rfl) (xs := #[.int .u64 u2, .string f2]) (off := 1) rfl
  have q1 := run_equalIn_int (P := Tryz.prog) w 9997 28 .u64 .u64 u u2 Tryz.underlying28
  have q2 := run_equalIn_string (P := Tryz.prog) w 9997 9 f f2 Tryz.underlying9
  rw [bytes_eq] at q2
  cases h : (u == u2) <;> simp [Program.fieldsOf, Tryz.underlying30, Op.eqFields, p1, p2, p3, p4, q1, q2, h, Sem.run_bind, Sem.run_ite, Result.andThen_ok]
  by_cases h2 : f = f2 <;> simp [h2]
theorem run_part_sess (k u : Int) (f : ByteArray) (q : Int) (s : ByteArray) (m n t : Int) (w : World) :
    (part 30 #[.int .i64 k, .int .u64 u, .string f, .int .u64 q, .string s, .int .i64 m, .int .u64 n, .int .i64 t] 1).run Tryz.prog w = .ok (.agg #[.int .u64 u, .string f]) w := by
  simp [go_sem, part]
theorem dec_val (k u : Int) (f : ByteArray) (q : Int) (s : ByteArray) (m n t k' u' : Int) (f' : ByteArray) (q' : Int) (s' : ByteArray) (m' n' t' : Int) :
    decide ((⟨k, u, f, q, s, m, n, t⟩ : K) = ⟨k', u', f', q', s', m', n', t'⟩) = ((k == k') && ((u == u' && decide (f = f')) && ((q == q') && (decide (s = s') && ((m == m') && ((n == n') && (t == t'))))))) := by
  rw [Bool.eq_iff_iff]
  simp [and_assoc]
set_option maxRecDepth 100000 in
theorem eq_parts (k u : Int) (f : ByteArray) (q : Int) (s : ByteArray) (m n t k' u' : Int) (f' : ByteArray) (q' : Int) (s' : ByteArray) (m' n' t' : Int) (w : World) :
    (Op.equalIn 10000 32 (val ⟨k, u, f, q, s, m, n, t⟩) (val ⟨k', u', f', q', s', m', n', t'⟩)).run Tryz.prog w = .ok ((k == k') && ((u == u' && decide (f = f')) && ((q == q') && (decide (s = s') && ((m == m') && ((n == n') && (t == t'))))))) w := by
  have ht : Tryz.prog.underlying 32 = some (.struct (Tryz.prog.fieldsOf 32)) := by kernel_rfl
  have hp : Tryz.prog.stoodInHeld 32 = false := by kernel_rfl
  rw [run_equalIn_struct w 9999 _ _ _ ht hp]
  have s1 := run_part_sess k u f q s m n t w
  have s2 := run_part_sess k' u' f' q' s' m' n' t' w
  have s3 := eq_sess u f u' f' w
  have a0 := run_part_plain (P := Tryz.prog) (w := w) (e := 3) (by kernel_rfl) (xs := #[.int .i64 k, .int .u64 u, .string f, .int .u64 q, .string s, .int .i64 m, .int .u64 n, .int .i64 t]) (off := 0) rfl
  have b0 := run_part_plain (P := Tryz.prog) (w := w) (e := 3) (by kernel_rfl) (xs := #[.int .i64 k', .int .u64 u', .string f', .int .u64 q', .string s', .int .i64 m', .int .u64 n', .int .i64 t']) (off := 0) rfl
  have e0 := run_equalIn_int (P := Tryz.prog) w 9998 3 .i64 .i64 k k' Tryz.underlying3
  have a1 := run_part_plain (P := Tryz.prog) (w := w) (e := 28) (by kernel_rfl) (xs := #[.int .i64 k, .int .u64 u, .string f, .int .u64 q, .string s, .int .i64 m, .int .u64 n, .int .i64 t]) (off := 3) rfl
  have b1 := run_part_plain (P := Tryz.prog) (w := w) (e := 28) (by kernel_rfl) (xs := #[.int .i64 k', .int .u64 u', .string f', .int .u64 q', .string s', .int .i64 m', .int .u64 n', .int .i64 t']) (off := 3) rfl
  have e1 := run_equalIn_int (P := Tryz.prog) w 9998 28 .u64 .u64 q q' Tryz.underlying28
  have a2 := run_part_plain (P := Tryz.prog) (w := w) (e := 9) (by kernel_rfl) (xs := #[.int .i64 k, .int .u64 u, .string f, .int .u64 q, .string s, .int .i64 m, .int .u64 n, .int .i64 t]) (off := 4) rfl
  have b2 := run_part_plain (P := Tryz.prog) (w := w) (e := 9) (by kernel_rfl) (xs := #[.int .i64 k', .int .u64 u', .string f', .int .u64 q', .string s', .int .i64 m', .int .u64 n', .int .i64 t']) (off := 4) rfl
  have e2 := run_equalIn_string (P := Tryz.prog) w 9998 9 s s' Tryz.underlying9
  rw [bytes_eq] at e2
  have a3 := run_part_plain (P := Tryz.prog) (w := w) (e := 3) (by kernel_rfl) (xs := #[.int .i64 k, .int .u64 u, .string f, .int .u64 q, .string s, .int .i64 m, .int .u64 n, .int .i64 t]) (off := 5) rfl
  have b3 := run_part_plain (P := Tryz.prog) (w := w) (e := 3) (by kernel_rfl) (xs := #[.int .i64 k', .int .u64 u', .string f', .int .u64 q', .string s', .int .i64 m', .int .u64 n', .int .i64 t']) (off := 5) rfl
  have e3 := run_equalIn_int (P := Tryz.prog) w 9998 3 .i64 .i64 m m' Tryz.underlying3
  have a4 := run_part_plain (P := Tryz.prog) (w := w) (e := 28) (by kernel_rfl) (xs := #[.int .i64 k, .int .u64 u, .string f, .int .u64 q, .string s, .int .i64 m, .int .u64 n, .int .i64 t]) (off := 6) rfl
  have b4 := run_part_plain (P := Tryz.prog) (w := w) (e := 28) (by kernel_rfl) (xs := #[.int .i64 k', .int .u64 u', .string f', .int .u64 q', .string s', .int .i64 m', .int .u64 n', .int .i64 t']) (off := 6) rfl
  have e4 := run_equalIn_int (P := Tryz.prog) w 9998 28 .u64 .u64 n n' Tryz.underlying28
  have a5 := run_part_plain (P := Tryz.prog) (w := w) (e := 3) (by kernel_rfl) (xs := #[.int .i64 k, .int .u64 u, .string f, .int .u64 q, .string s, .int .i64 m, .int .u64 n, .int .i64 t]) (off := 7) rfl
  have b5 := run_part_plain (P := Tryz.prog) (w := w) (e := 3) (by kernel_rfl) (xs := #[.int .i64 k', .int .u64 u', .string f', .int .u64 q', .string s', .int .i64 m', .int .u64 n', .int .i64 t']) (off := 7) rfl
  have e5 := run_equalIn_int (P := Tryz.prog) w 9998 3 .i64 .i64 t t' Tryz.underlying3
  obtain ⟨x0, hx0⟩ : ∃ x, (k == k') = x := ⟨_, rfl⟩
  rw [hx0] at e0 ⊢
  obtain ⟨x1, hx1⟩ : ∃ x, (u == u' && decide (f = f')) = x := ⟨_, rfl⟩
  rw [hx1] at s3 ⊢
  obtain ⟨x2, hx2⟩ : ∃ x, (q == q') = x := ⟨_, rfl⟩
  rw [hx2] at e1 ⊢
  obtain ⟨x3, hx3⟩ : ∃ x, decide (s = s') = x := ⟨_, rfl⟩
  rw [hx3] at e2 ⊢
  obtain ⟨x4, hx4⟩ : ∃ x, (m == m') = x := ⟨_, rfl⟩
  rw [hx4] at e3 ⊢
  obtain ⟨x5, hx5⟩ : ∃ x, (n == n') = x := ⟨_, rfl⟩
  rw [hx5] at e4 ⊢
  obtain ⟨x6, hx6⟩ : ∃ x, (t == t') = x := ⟨_, rfl⟩
  rw [hx6] at e5 ⊢
  clear hx0 hx1 hx2 hx3 hx4 hx5 hx6 ht hp
  simp only [Program.fieldsOf, Tryz.underlying32]
  cases x0 <;> cases x1 <;> cases x2 <;> cases x3 <;> cases x4 <;> cases x5 <;> simp [Op.eqFields, s1, s2, s3, a0, b0, e0, a1, b1, e1, a2, b2, e2, a3, b3, e3, a4, b4, e4, a5, b5, e5, Sem.run_bind, Sem.run_ite, Result.andThen_ok]
  cases x6 <;> rfl
theorem eq_val (c d : K) (b : Bool) (hb : decide (c = d) = b) (w : World) : (Op.equalIn 10000 32 (val c) (val d)).run Tryz.prog w = .ok b w := by
  subst hb
  obtain ⟨k, u, f, q, s, m, n, t⟩ := c
  obtain ⟨k', u', f', q', s', m', n', t'⟩ := d
  rw [dec_val]
  exact eq_parts k u f q s m n t k' u' f' q' s' m' n' t' w
theorem eq_guard : Tryz.prog.eqGuardType Tryz.prog.depth 32 = false := by kernel_rfl
end Go.Proofs.YtohffiehmmcgbaaGreatDoor
namespace Go.Proofs.YtohffiehmmcgbaaGreatDoor
open Go.ChangeShapes Go.WideShapes Go.ChangeAt Go.RowKit
set_option linter.unusedVariables false
set_option linter.unusedSimpArgs false
theorem eqf_cons {P : Program} {d : Nat} {xs ys : Array Value} {f : Field} {fs : List Field} {w : World} {a b : Value} {x y : Bool} (hf : f.name ≠ "_") (h1 : (part f.type xs f.offset).run P w = .ok a w) (h2 : (part f.type ys f.offset).run P w = .ok b w)
    (h3 : (Op.equalIn d f.type a b).run P w = .ok x w) (h4 : (Op.eqFields d xs ys fs).run P w = .ok y w) : (Op.eqFields d xs ys (f :: fs)).run P w = .ok (x && y) w := by
  simp only [Op.eqFields, if_pos hf, Sem.run_bind, h1, h2, h3, Result.andThen_ok]
  cases x
  · simp
  · simpa using h4
theorem eqf_nil {P : Program} {d : Nat} {xs ys : Array Value} {w : World} : (Op.eqFields d xs ys []).run P w = .ok true w := by simp [Op.eqFields]
def rowJ (x : J) : Array Value := #[.int .i64 x.r, .int .i64 x.s, .int .i64 x.st, .int .u32 x.bal, .int .u32 x.vote, .bool x.same, .int .i64 x.c.kind, .int .u64 x.c.num, .string x.c.foot, .int .u64 x.c.req, .string x.c.path, .int .i64 x.c.mode, .int .u64 x.c.n, .int .i64 x.c.time, .int .i64 (x.f 0), .int .i64 (x.f 1), .int .i64 (x.f 2), .int .i64 (x.f 3), .int .i64 (x.f 4), .int .i64 (x.f 5), .int .i64 (x.f 6), .int .i64 (x.f 7)]
theorem rowJ_size (x : J) : (rowJ x).size = 22 := rfl
theorem eq_name1 (r s r2 s2 : Int) (b : Bool) (hb : (r == r2 && s == s2) = b) (w : World) :
    (Op.equalIn 9999 25 (.agg #[.int .i64 r, .int .i64 s]) (.agg #[.int .i64 r2, .int .i64 s2])).run Tryz.prog w = .ok b w := by
  have ht : Tryz.prog.underlying 25 = some (.struct (Tryz.prog.fieldsOf 25)) := by kernel_rfl
  have hp : Tryz.prog.stoodInHeld 25 = false := by kernel_rfl
  rw [run_equalIn_struct w 9998 _ _ _ ht hp]
  have p1 := run_part_plain (P := Tryz.prog) (w := w) (e := 3) (by kernel_rfl) (xs := #[.int .i64 r, .int .i64 s]) (off := 0) rfl
  have p2 := run_part_plain (P := Tryz.prog) (w := w) (e := 3) (by kernel_rfl) (xs := #[.int .i64 r, .int .i64 s]) (off := 1) rfl
  have p3 := run_part_plain (P := Tryz.prog) (w := w) (e := 3) (by kernel_rfl) (xs := #[.int .i64 r2, .int .i64 s2]) (off := 0) rfl
  have p4 := run_part_plain (P := Tryz.prog) (w := w) (e := 3) (by kernel_rfl) (xs := #[.int .i64 r2, .int .i64 s2]) (off := 1) rfl
  have q1 := run_equalIn_int (P := Tryz.prog) w 9997 3 .i64 .i64 r r2 Tryz.underlying3
  have q2 := run_equalIn_int (P := Tryz.prog) w 9997 3 .i64 .i64 s s2 Tryz.underlying3
  subst hb
  cases h : (r == r2) <;> simp [Program.fieldsOf, Tryz.underlying25, Op.eqFields, p1, p2, p3, p4, q1, q2, h, Sem.run_bind, Sem.run_ite, Result.andThen_ok]
  by_cases h2 : s = s2 <;> simp [h2]
theorem eq_sess1 (u : Int) (f : ByteArray) (u2 : Int) (f2 : ByteArray) (w : World) :
    (Op.equalIn 9998 30 (.agg #[.int .u64 u, .string f]) (.agg #[.int .u64 u2, .string f2])).run Tryz.prog w = .ok (u == u2 && decide (f = f2)) w := by
  have ht : Tryz.prog.underlying 30 = some (.struct (Tryz.prog.fieldsOf 30)) := by kernel_rfl
  have hp : Tryz.prog.stoodInHeld 30 = false := by kernel_rfl
  rw [run_equalIn_struct w 9997 _ _ _ ht hp]
  have p1 := run_part_plain (P := Tryz.prog) (w := w) (e := 28) (by kernel_rfl) (xs := #[.int .u64 u, .string f]) (off := 0) rfl
  have p2 := run_part_plain (P := Tryz.prog) (w := w) (e := 9) (by kernel_rfl) (xs := #[.int .u64 u, .string f]) (off := 1) rfl
  have p3 := run_part_plain (P := Tryz.prog) (w := w) (e := 28) (by kernel_rfl) (xs := #[.int .u64 u2, .string f2]) (off := 0) rfl
  have p4 := run_part_plain (P := Tryz.prog) (w := w) (e := 9) (by kernel_rfl) (xs := #[.int .u64 u2, .string f2]) (off := 1) rfl
  have q1 := run_equalIn_int (P := Tryz.prog) w 9996 28 .u64 .u64 u u2 Tryz.underlying28
  have q2 := run_equalIn_string (P := Tryz.prog) w 9996 9 f f2 Tryz.underlying9
  rw [bytes_eq] at q2
  cases h : (u == u2) <;> simp [Program.fieldsOf, Tryz.underlying30, Op.eqFields, p1, p2, p3, p4, q1, q2, h, Sem.run_bind, Sem.run_ite, Result.andThen_ok]
  by_cases h2 : f = f2 <;> simp [h2]
set_option maxRecDepth 100000 in
theorem eq_parts1 (k u : Int) (f : ByteArray) (q : Int) (s : ByteArray) (m n t k' u' : Int) (f' : ByteArray) (q' : Int) (s' : ByteArray) (m' n' t' : Int) (w : World) :
    (Op.equalIn 9999 32 (val ⟨k, u, f, q, s, m, n, t⟩) (val ⟨k', u', f', q', s', m', n', t'⟩)).run Tryz.prog w = .ok ((k == k') && ((u == u' && decide (f = f')) && ((q == q') && (decide (s = s') && ((m == m') && ((n == n') && (t == t'))))))) w := by
  have ht : Tryz.prog.underlying 32 = some (.struct (Tryz.prog.fieldsOf 32)) := by kernel_rfl
  have hp : Tryz.prog.stoodInHeld 32 = false := by kernel_rfl
  rw [run_equalIn_struct w 9998 _ _ _ ht hp]
  have s1 := run_part_sess k u f q s m n t w
  have s2 := run_part_sess k' u' f' q' s' m' n' t' w
  have s3 := eq_sess1 u f u' f' w
  have a0 := run_part_plain (P := Tryz.prog) (w := w) (e := 3) (by kernel_rfl) (xs := #[.int .i64 k, .int .u64 u, .string f, .int .u64 q, .string s, .int .i64 m, .int .u64 n, .int .i64 t]) (off := 0) rfl
  have b0 := run_part_plain (P := Tryz.prog) (w := w) (e := 3) (by kernel_rfl) (xs := #[.int .i64 k', .int .u64 u', .string f', .int .u64 q', .string s', .int .i64 m', .int .u64 n', .int .i64 t']) (off := 0) rfl
  have e0 := run_equalIn_int (P := Tryz.prog) w 9997 3 .i64 .i64 k k' Tryz.underlying3
  have a1 := run_part_plain (P := Tryz.prog) (w := w) (e := 28) (by kernel_rfl) (xs := #[.int .i64 k, .int .u64 u, .string f, .int .u64 q, .string s, .int .i64 m, .int .u64 n, .int .i64 t]) (off := 3) rfl
  have b1 := run_part_plain (P := Tryz.prog) (w := w) (e := 28) (by kernel_rfl) (xs := #[.int .i64 k', .int .u64 u', .string f', .int .u64 q', .string s', .int .i64 m', .int .u64 n', .int .i64 t']) (off := 3) rfl
  have e1 := run_equalIn_int (P := Tryz.prog) w 9997 28 .u64 .u64 q q' Tryz.underlying28
  have a2 := run_part_plain (P := Tryz.prog) (w := w) (e := 9) (by kernel_rfl) (xs := #[.int .i64 k, .int .u64 u, .string f, .int .u64 q, .string s, .int .i64 m, .int .u64 n, .int .i64 t]) (off := 4) rfl
  have b2 := run_part_plain (P := Tryz.prog) (w := w) (e := 9) (by kernel_rfl) (xs := #[.int .i64 k', .int .u64 u', .string f', .int .u64 q', .string s', .int .i64 m', .int .u64 n', .int .i64 t']) (off := 4) rfl
  have e2 := run_equalIn_string (P := Tryz.prog) w 9997 9 s s' Tryz.underlying9
  rw [bytes_eq] at e2
  have a3 := run_part_plain (P := Tryz.prog) (w := w) (e := 3) (by kernel_rfl) (xs := #[.int .i64 k, .int .u64 u, .string f, .int .u64 q, .string s, .int .i64 m, .int .u64 n, .int .i64 t]) (off := 5) rfl
  have b3 := run_part_plain (P := Tryz.prog) (w := w) (e := 3) (by kernel_rfl) (xs := #[.int .i64 k', .int .u64 u', .string f', .int .u64 q', .string s', .int .i64 m', .int .u64 n', .int .i64 t']) (off := 5) rfl
  have e3 := run_equalIn_int (P := Tryz.prog) w 9997 3 .i64 .i64 m m' Tryz.underlying3
  have a4 := run_part_plain (P := Tryz.prog) (w := w) (e := 28) (by kernel_rfl) (xs := #[.int .i64 k, .int .u64 u, .string f, .int .u64 q, .string s, .int .i64 m, .int .u64 n, .int .i64 t]) (off := 6) rfl
  have b4 := run_part_plain (P := Tryz.prog) (w := w) (e := 28) (by kernel_rfl) (xs := #[.int .i64 k', .int .u64 u', .string f', .int .u64 q', .string s', .int .i64 m', .int .u64 n', .int .i64 t']) (off := 6) rfl
  have e4 := run_equalIn_int (P := Tryz.prog) w 9997 28 .u64 .u64 n n' Tryz.underlying28
  have a5 := run_part_plain (P := Tryz.prog) (w := w) (e := 3) (by kernel_rfl) (xs := #[.int .i64 k, .int .u64 u, .string f, .int .u64 q, .string s, .int .i64 m, .int .u64 n, .int .i64 t]) (off := 7) rfl
  have b5 := run_part_plain (P := Tryz.prog) (w := w) (e := 3) (by kernel_rfl) (xs := #[.int .i64 k', .int .u64 u', .string f', .int .u64 q', .string s', .int .i64 m', .int .u64 n', .int .i64 t']) (off := 7) rfl
  have e5 := run_equalIn_int (P := Tryz.prog) w 9997 3 .i64 .i64 t t' Tryz.underlying3
  obtain ⟨x0, hx0⟩ : ∃ x, (k == k') = x := ⟨_, rfl⟩
  rw [hx0] at e0 ⊢
  obtain ⟨x1, hx1⟩ : ∃ x, (u == u' && decide (f = f')) = x := ⟨_, rfl⟩
  rw [hx1] at s3 ⊢
  obtain ⟨x2, hx2⟩ : ∃ x, (q == q') = x := ⟨_, rfl⟩
  rw [hx2] at e1 ⊢
  obtain ⟨x3, hx3⟩ : ∃ x, decide (s = s') = x := ⟨_, rfl⟩
  rw [hx3] at e2 ⊢
  obtain ⟨x4, hx4⟩ : ∃ x, (m == m') = x := ⟨_, rfl⟩
  rw [hx4] at e3 ⊢
  obtain ⟨x5, hx5⟩ : ∃ x, (n == n') = x := ⟨_, rfl⟩
  rw [hx5] at e4 ⊢
  obtain ⟨x6, hx6⟩ : ∃ x, (t == t') = x := ⟨_, rfl⟩
  rw [hx6] at e5 ⊢
  clear hx0 hx1 hx2 hx3 hx4 hx5 hx6 ht hp
  simp only [Program.fieldsOf, Tryz.underlying32]
  cases x0 <;> cases x1 <;> cases x2 <;> cases x3 <;> cases x4 <;> cases x5 <;> simp [Op.eqFields, s1, s2, s3, a0, b0, e0, a1, b1, e1, a2, b2, e2, a3, b3, e3, a4, b4, e4, a5, b5, e5, Sem.run_bind, Sem.run_ite, Result.andThen_ok]
  cases x6 <;> rfl
theorem eq_val1 (c d : K) (b : Bool) (hb : decide (c = d) = b) (w : World) : (Op.equalIn 9999 32 (val c) (val d)).run Tryz.prog w = .ok b w := by
  subst hb
  obtain ⟨k, u, f, q, s, m, n, t⟩ := c
  obtain ⟨k', u', f', q', s', m', n', t'⟩ := d
  rw [dec_val]
  exact eq_parts1 k u f q s m n t k' u' f' q' s' m' n' t' w
theorem eq_attr1 (f g : Nat → Int) (b : Bool) (hb : eqA f g = b) (w : World) : (Op.equalIn 9999 35 (.agg #[.int .i64 (f 0), .int .i64 (f 1), .int .i64 (f 2), .int .i64 (f 3), .int .i64 (f 4), .int .i64 (f 5), .int .i64 (f 6), .int .i64 (f 7)]) (.agg #[.int .i64 (g 0), .int .i64 (g 1), .int .i64 (g 2), .int .i64 (g 3), .int .i64 (g 4), .int .i64 (g 5), .int .i64 (g 6), .int .i64 (g 7)])).run Tryz.prog w = .ok b w := by
  have ht : Tryz.prog.underlying 35 = some (.struct (Tryz.prog.fieldsOf 35)) := by kernel_rfl
  have hp : Tryz.prog.stoodInHeld 35 = false := by kernel_rfl
  rw [run_equalIn_struct w 9998 _ _ _ ht hp]
  have p0 := run_part_plain (P := Tryz.prog) (w := w) (e := 3) (by kernel_rfl) (xs := cs8 f) (off := 0) rfl
  have q0 := run_part_plain (P := Tryz.prog) (w := w) (e := 3) (by kernel_rfl) (xs := cs8 g) (off := 0) rfl
  have p1 := part_deps f w
  have q1 := part_deps g w
  have e0 := run_equalIn_int (P := Tryz.prog) w 9997 3 .i64 .i64 (f 0) (g 0) Tryz.underlying3
  have e1 := eq_seven f g 9996 w
  subst hb
  unfold eqA
  obtain ⟨x, hx⟩ : ∃ x, (f 0 == g 0) = x := ⟨_, rfl⟩
  rw [hx] at e0 ⊢
  obtain ⟨y, hy⟩ : ∃ y, eqD f g = y := ⟨_, rfl⟩
  rw [hy] at e1 ⊢
  cases x <;> cases y <;> simp [Program.fieldsOf, Tryz.underlying35, Op.eqFields, p0, p1, q0, q1, e0, e1, Sem.run_bind, Sem.run_ite, Result.andThen_ok]
theorem eq_rname1 (r s r2 s2 : Int) (b : Bool) (hb : (r == r2 && s == s2) = b) (w : World) :
    (Op.equalIn 9999 43 (.agg #[.int .i64 r, .int .i64 s]) (.agg #[.int .i64 r2, .int .i64 s2])).run Tryz.prog w = .ok b w := by
  have ht : Tryz.prog.underlying 43 = some (.struct (Tryz.prog.fieldsOf 43)) := by kernel_rfl
  have hp : Tryz.prog.stoodInHeld 43 = false := by kernel_rfl
  rw [run_equalIn_struct w 9998 _ _ _ ht hp]
  have p1 := run_part_plain (P := Tryz.prog) (w := w) (e := 3) (by kernel_rfl) (xs := #[.int .i64 r, .int .i64 s]) (off := 0) rfl
  have p2 := run_part_plain (P := Tryz.prog) (w := w) (e := 3) (by kernel_rfl) (xs := #[.int .i64 r, .int .i64 s]) (off := 1) rfl
  have p3 := run_part_plain (P := Tryz.prog) (w := w) (e := 3) (by kernel_rfl) (xs := #[.int .i64 r2, .int .i64 s2]) (off := 0) rfl
  have p4 := run_part_plain (P := Tryz.prog) (w := w) (e := 3) (by kernel_rfl) (xs := #[.int .i64 r2, .int .i64 s2]) (off := 1) rfl
  have q1 := run_equalIn_int (P := Tryz.prog) w 9997 3 .i64 .i64 r r2 Tryz.underlying3
  have q2 := run_equalIn_int (P := Tryz.prog) w 9997 3 .i64 .i64 s s2 Tryz.underlying3
  subst hb
  cases h : (r == r2) <;> simp [Program.fieldsOf, Tryz.underlying43, Op.eqFields, p1, p2, p3, p4, q1, q2, h, Sem.run_bind, Sem.run_ite, Result.andThen_ok]
  by_cases h2 : s = s2 <;> simp [h2]
theorem dec_val2 (k u : Int) (f : ByteArray) (q : Int) (s : ByteArray) (m n t k' u' : Int) (f' : ByteArray) (q' : Int) (s' : ByteArray) (m' n' t' : Int) :
    decide ((⟨k, u, f, q, s, m, n, t⟩ : K) = ⟨k', u', f', q', s', m', n', t'⟩) = ((k == k') && ((u == u') && (decide (f = f') && ((q == q') && (decide (s = s') && ((m == m') && ((n == n') && ((t == t') && true)))))))) := by
  rw [Bool.eq_iff_iff]
  simp [and_assoc]
set_option maxRecDepth 100000 in
theorem eq_rparts1 (k u : Int) (f : ByteArray) (q : Int) (s : ByteArray) (m n t k' u' : Int) (f' : ByteArray) (q' : Int) (s' : ByteArray) (m' n' t' : Int) (w : World) :
    (Op.equalIn 9999 45 (val ⟨k, u, f, q, s, m, n, t⟩) (val ⟨k', u', f', q', s', m', n', t'⟩)).run Tryz.prog w = .ok ((k == k') && ((u == u') && (decide (f = f') && ((q == q') && (decide (s = s') && ((m == m') && ((n == n') && ((t == t') && true)))))))) w := by
  have ht : Tryz.prog.underlying 45 = some (.struct (Tryz.prog.fieldsOf 45)) := by kernel_rfl
  have hp : Tryz.prog.stoodInHeld 45 = false := by kernel_rfl
  rw [run_equalIn_struct w 9998 _ _ _ ht hp]
  have a0 := run_part_plain (P := Tryz.prog) (w := w) (e := 3) (by kernel_rfl) (xs := #[.int .i64 k, .int .u64 u, .string f, .int .u64 q, .string s, .int .i64 m, .int .u64 n, .int .i64 t]) (off := 0) rfl
  have b0 := run_part_plain (P := Tryz.prog) (w := w) (e := 3) (by kernel_rfl) (xs := #[.int .i64 k', .int .u64 u', .string f', .int .u64 q', .string s', .int .i64 m', .int .u64 n', .int .i64 t']) (off := 0) rfl
  have e0 := run_equalIn_int (P := Tryz.prog) w 9997 3 .i64 .i64 k k' Tryz.underlying3
  have a1 := run_part_plain (P := Tryz.prog) (w := w) (e := 28) (by kernel_rfl) (xs := #[.int .i64 k, .int .u64 u, .string f, .int .u64 q, .string s, .int .i64 m, .int .u64 n, .int .i64 t]) (off := 1) rfl
  have b1 := run_part_plain (P := Tryz.prog) (w := w) (e := 28) (by kernel_rfl) (xs := #[.int .i64 k', .int .u64 u', .string f', .int .u64 q', .string s', .int .i64 m', .int .u64 n', .int .i64 t']) (off := 1) rfl
  have e1 := run_equalIn_int (P := Tryz.prog) w 9997 28 .u64 .u64 u u' Tryz.underlying28
  have a2 := run_part_plain (P := Tryz.prog) (w := w) (e := 9) (by kernel_rfl) (xs := #[.int .i64 k, .int .u64 u, .string f, .int .u64 q, .string s, .int .i64 m, .int .u64 n, .int .i64 t]) (off := 2) rfl
  have b2 := run_part_plain (P := Tryz.prog) (w := w) (e := 9) (by kernel_rfl) (xs := #[.int .i64 k', .int .u64 u', .string f', .int .u64 q', .string s', .int .i64 m', .int .u64 n', .int .i64 t']) (off := 2) rfl
  have e2 := run_equalIn_string (P := Tryz.prog) w 9997 9 f f' Tryz.underlying9
  rw [bytes_eq] at e2
  have a3 := run_part_plain (P := Tryz.prog) (w := w) (e := 28) (by kernel_rfl) (xs := #[.int .i64 k, .int .u64 u, .string f, .int .u64 q, .string s, .int .i64 m, .int .u64 n, .int .i64 t]) (off := 3) rfl
  have b3 := run_part_plain (P := Tryz.prog) (w := w) (e := 28) (by kernel_rfl) (xs := #[.int .i64 k', .int .u64 u', .string f', .int .u64 q', .string s', .int .i64 m', .int .u64 n', .int .i64 t']) (off := 3) rfl
  have e3 := run_equalIn_int (P := Tryz.prog) w 9997 28 .u64 .u64 q q' Tryz.underlying28
  have a4 := run_part_plain (P := Tryz.prog) (w := w) (e := 9) (by kernel_rfl) (xs := #[.int .i64 k, .int .u64 u, .string f, .int .u64 q, .string s, .int .i64 m, .int .u64 n, .int .i64 t]) (off := 4) rfl
  have b4 := run_part_plain (P := Tryz.prog) (w := w) (e := 9) (by kernel_rfl) (xs := #[.int .i64 k', .int .u64 u', .string f', .int .u64 q', .string s', .int .i64 m', .int .u64 n', .int .i64 t']) (off := 4) rfl
  have e4 := run_equalIn_string (P := Tryz.prog) w 9997 9 s s' Tryz.underlying9
  rw [bytes_eq] at e4
  have a5 := run_part_plain (P := Tryz.prog) (w := w) (e := 3) (by kernel_rfl) (xs := #[.int .i64 k, .int .u64 u, .string f, .int .u64 q, .string s, .int .i64 m, .int .u64 n, .int .i64 t]) (off := 5) rfl
  have b5 := run_part_plain (P := Tryz.prog) (w := w) (e := 3) (by kernel_rfl) (xs := #[.int .i64 k', .int .u64 u', .string f', .int .u64 q', .string s', .int .i64 m', .int .u64 n', .int .i64 t']) (off := 5) rfl
  have e5 := run_equalIn_int (P := Tryz.prog) w 9997 3 .i64 .i64 m m' Tryz.underlying3
  have a6 := run_part_plain (P := Tryz.prog) (w := w) (e := 28) (by kernel_rfl) (xs := #[.int .i64 k, .int .u64 u, .string f, .int .u64 q, .string s, .int .i64 m, .int .u64 n, .int .i64 t]) (off := 6) rfl
  have b6 := run_part_plain (P := Tryz.prog) (w := w) (e := 28) (by kernel_rfl) (xs := #[.int .i64 k', .int .u64 u', .string f', .int .u64 q', .string s', .int .i64 m', .int .u64 n', .int .i64 t']) (off := 6) rfl
  have e6 := run_equalIn_int (P := Tryz.prog) w 9997 28 .u64 .u64 n n' Tryz.underlying28
  have a7 := run_part_plain (P := Tryz.prog) (w := w) (e := 3) (by kernel_rfl) (xs := #[.int .i64 k, .int .u64 u, .string f, .int .u64 q, .string s, .int .i64 m, .int .u64 n, .int .i64 t]) (off := 7) rfl
  have b7 := run_part_plain (P := Tryz.prog) (w := w) (e := 3) (by kernel_rfl) (xs := #[.int .i64 k', .int .u64 u', .string f', .int .u64 q', .string s', .int .i64 m', .int .u64 n', .int .i64 t']) (off := 7) rfl
  have e7 := run_equalIn_int (P := Tryz.prog) w 9997 3 .i64 .i64 t t' Tryz.underlying3
  simp only [Program.fieldsOf, Tryz.underlying45]
  exact eqf_cons (by decide) a0 b0 e0 (eqf_cons (by decide) a1 b1 e1 (eqf_cons (by decide) a2 b2 e2 (eqf_cons (by decide) a3 b3 e3 (eqf_cons (by decide) a4 b4 e4 (eqf_cons (by decide) a5 b5 e5 (eqf_cons (by decide) a6 b6 e6 (eqf_cons (by decide) a7 b7 e7 eqf_nil)))))))
theorem eq_rval1 (c d : K) (b : Bool) (hb : decide (c = d) = b) (w : World) : (Op.equalIn 9999 45 (val c) (val d)).run Tryz.prog w = .ok b w := by
  subst hb
  obtain ⟨k, u, f, q, s, m, n, t⟩ := c
  obtain ⟨k', u', f', q', s', m', n', t'⟩ := d
  rw [dec_val2]
  exact eq_rparts1 k u f q s m n t k' u' f' q' s' m' n' t' w
theorem eq_refa1 (f g : Nat → Int) (b : Bool) (hb : eqA f g = b) (w : World) : (Op.equalIn 9999 46 (.agg #[.int .i64 (f 0), .int .i64 (f 1), .int .i64 (f 2), .int .i64 (f 3), .int .i64 (f 4), .int .i64 (f 5), .int .i64 (f 6), .int .i64 (f 7)]) (.agg #[.int .i64 (g 0), .int .i64 (g 1), .int .i64 (g 2), .int .i64 (g 3), .int .i64 (g 4), .int .i64 (g 5), .int .i64 (g 6), .int .i64 (g 7)])).run Tryz.prog w = .ok b w := by
  have ht : Tryz.prog.underlying 46 = some (.struct (Tryz.prog.fieldsOf 46)) := by kernel_rfl
  have hp : Tryz.prog.stoodInHeld 46 = false := by kernel_rfl
  rw [run_equalIn_struct w 9998 _ _ _ ht hp]
  have p0 := run_part_plain (P := Tryz.prog) (w := w) (e := 3) (by kernel_rfl) (xs := cs8 f) (off := 0) rfl
  have q0 := run_part_plain (P := Tryz.prog) (w := w) (e := 3) (by kernel_rfl) (xs := cs8 g) (off := 0) rfl
  have p1 := part_deps f w
  have q1 := part_deps g w
  have e0 := run_equalIn_int (P := Tryz.prog) w 9997 3 .i64 .i64 (f 0) (g 0) Tryz.underlying3
  have e1 := eq_seven f g 9996 w
  subst hb
  unfold eqA
  obtain ⟨x, hx⟩ : ∃ x, (f 0 == g 0) = x := ⟨_, rfl⟩
  rw [hx] at e0 ⊢
  obtain ⟨y, hy⟩ : ∃ y, eqD f g = y := ⟨_, rfl⟩
  rw [hy] at e1 ⊢
  cases x <;> cases y <;> simp [Program.fieldsOf, Tryz.underlying46, Op.eqFields, p0, p1, q0, q1, e0, e1, Sem.run_bind, Sem.run_ite, Result.andThen_ok]
theorem run_eq_bool (d : Nat) (a b : Bool) (w : World) : (Op.equalIn (d + 1) 4 (.bool a) (.bool b)).run Tryz.prog w = .ok (a == b) w := by
  exact run_equalIn_bool w d 4 a b Tryz.underlying4
theorem part_name (x : J) (T : TypeId) (hT : T = 25 ∨ T = 43) (w : World) : (part T (rowJ x) 0).run Tryz.prog w = .ok (.agg #[.int .i64 x.r, .int .i64 x.s]) w := by
  rcases hT with rfl | rfl <;> simp [go_sem, part, rowJ]
theorem part_cmd (x : J) (T : TypeId) (hT : T = 32 ∨ T = 45) (w : World) : (part T (rowJ x) 6).run Tryz.prog w = .ok (val x.c) w := by
  rcases hT with rfl | rfl <;> simp [go_sem, part, rowJ]
theorem part_attr (x : J) (T : TypeId) (hT : T = 35 ∨ T = 46) (w : World) : (part T (rowJ x) 14).run Tryz.prog w = .ok (va x.f) w := by
  rcases hT with rfl | rfl <;> simp [go_sem, part, rowJ]
set_option maxRecDepth 100000 in
set_option maxHeartbeats 1000000 in
theorem eq_inst (x y : J) (b : Bool) (hb : eqJ x y = b) (w : World) : (Op.equalIn 10000 37 (.agg (rowJ x)) (.agg (rowJ y))).run Tryz.prog w = .ok b w := by
  have ht : Tryz.prog.underlying 37 = some (.struct (Tryz.prog.fieldsOf 37)) := by kernel_rfl
  have hp : Tryz.prog.stoodInHeld 37 = false := by kernel_rfl
  rw [run_equalIn_struct w 9999 _ _ _ ht hp]
  have x0 := part_name x 25 (.inl rfl) w
  have x5 := part_cmd x 32 (.inl rfl) w
  have x6 := part_attr x 35 (.inl rfl) w
  have x1 := run_part_plain (P := Tryz.prog) (w := w) (e := 3) (by kernel_rfl) (xs := rowJ x) (off := 2) (v := .int .i64 x.st) rfl
  have x2 := run_part_plain (P := Tryz.prog) (w := w) (e := 27) (by kernel_rfl) (xs := rowJ x) (off := 3) (v := .int .u32 x.bal) rfl
  have x3 := run_part_plain (P := Tryz.prog) (w := w) (e := 27) (by kernel_rfl) (xs := rowJ x) (off := 4) (v := .int .u32 x.vote) rfl
  have x4 := run_part_plain (P := Tryz.prog) (w := w) (e := 4) (by kernel_rfl) (xs := rowJ x) (off := 5) (v := .bool x.same) rfl
  have y0 := part_name y 25 (.inl rfl) w
  have y5 := part_cmd y 32 (.inl rfl) w
  have y6 := part_attr y 35 (.inl rfl) w
  have y1 := run_part_plain (P := Tryz.prog) (w := w) (e := 3) (by kernel_rfl) (xs := rowJ y) (off := 2) (v := .int .i64 y.st) rfl
  have y2 := run_part_plain (P := Tryz.prog) (w := w) (e := 27) (by kernel_rfl) (xs := rowJ y) (off := 3) (v := .int .u32 y.bal) rfl
  have y3 := run_part_plain (P := Tryz.prog) (w := w) (e := 27) (by kernel_rfl) (xs := rowJ y) (off := 4) (v := .int .u32 y.vote) rfl
  have y4 := run_part_plain (P := Tryz.prog) (w := w) (e := 4) (by kernel_rfl) (xs := rowJ y) (off := 5) (v := .bool y.same) rfl
  have e0 := eq_name1 x.r x.s y.r y.s _ rfl w
  have e1 := run_equalIn_int (P := Tryz.prog) w 9998 3 .i64 .i64 x.st y.st Tryz.underlying3
  have e2 := run_equalIn_int (P := Tryz.prog) w 9998 27 .u32 .u32 x.bal y.bal Tryz.underlying27
  have e3 := run_equalIn_int (P := Tryz.prog) w 9998 27 .u32 .u32 x.vote y.vote Tryz.underlying27
  have e4 := run_eq_bool 9998 x.same y.same w
  have e5 := eq_val1 x.c y.c _ rfl w
  have e6 := eq_attr1 x.f y.f _ rfl w
  subst hb
  have hE : eqJ x y = ((x.r == y.r && x.s == y.s) && ((x.st == y.st) && ((x.bal == y.bal) && ((x.vote == y.vote) && ((x.same == y.same) && (decide (x.c = y.c) && (eqA x.f y.f && true))))))) := by unfold eqJ; rw [Bool.and_true]
  rw [hE]
  clear hE
  simp only [Program.fieldsOf, Tryz.underlying37]
  exact eqf_cons (by decide) x0 y0 e0 (eqf_cons (by decide) x1 y1 e1 (eqf_cons (by decide) x2 y2 e2 (eqf_cons (by decide) x3 y3 e3 (eqf_cons (by decide) x4 y4 e4 (eqf_cons (by decide) x5 y5 e5 (eqf_cons (by decide) x6 y6 e6 eqf_nil))))))
set_option maxRecDepth 100000 in
set_option maxHeartbeats 1000000 in
theorem eq_refx (x y : J) (b : Bool) (hb : eqJ x y = b) (w : World) : (Op.equalIn 10000 48 (.agg (rowJ x)) (.agg (rowJ y))).run Tryz.prog w = .ok b w := by
  have ht : Tryz.prog.underlying 48 = some (.struct (Tryz.prog.fieldsOf 48)) := by kernel_rfl
  have hp : Tryz.prog.stoodInHeld 48 = false := by kernel_rfl
  rw [run_equalIn_struct w 9999 _ _ _ ht hp]
  have x0 := part_name x 43 (.inr rfl) w
  have x5 := part_cmd x 45 (.inr rfl) w
  have x6 := part_attr x 46 (.inr rfl) w
  have x1 := run_part_plain (P := Tryz.prog) (w := w) (e := 3) (by kernel_rfl) (xs := rowJ x) (off := 2) (v := .int .i64 x.st) rfl
  have x2 := run_part_plain (P := Tryz.prog) (w := w) (e := 26) (by kernel_rfl) (xs := rowJ x) (off := 3) (v := .int .u32 x.bal) rfl
  have x3 := run_part_plain (P := Tryz.prog) (w := w) (e := 26) (by kernel_rfl) (xs := rowJ x) (off := 4) (v := .int .u32 x.vote) rfl
  have x4 := run_part_plain (P := Tryz.prog) (w := w) (e := 4) (by kernel_rfl) (xs := rowJ x) (off := 5) (v := .bool x.same) rfl
  have y0 := part_name y 43 (.inr rfl) w
  have y5 := part_cmd y 45 (.inr rfl) w
  have y6 := part_attr y 46 (.inr rfl) w
  have y1 := run_part_plain (P := Tryz.prog) (w := w) (e := 3) (by kernel_rfl) (xs := rowJ y) (off := 2) (v := .int .i64 y.st) rfl
  have y2 := run_part_plain (P := Tryz.prog) (w := w) (e := 26) (by kernel_rfl) (xs := rowJ y) (off := 3) (v := .int .u32 y.bal) rfl
  have y3 := run_part_plain (P := Tryz.prog) (w := w) (e := 26) (by kernel_rfl) (xs := rowJ y) (off := 4) (v := .int .u32 y.vote) rfl
  have y4 := run_part_plain (P := Tryz.prog) (w := w) (e := 4) (by kernel_rfl) (xs := rowJ y) (off := 5) (v := .bool y.same) rfl
  have e0 := eq_rname1 x.r x.s y.r y.s _ rfl w
  have e1 := run_equalIn_int (P := Tryz.prog) w 9998 3 .i64 .i64 x.st y.st Tryz.underlying3
  have e2 := run_equalIn_int (P := Tryz.prog) w 9998 26 .u32 .u32 x.bal y.bal Tryz.underlying26
  have e3 := run_equalIn_int (P := Tryz.prog) w 9998 26 .u32 .u32 x.vote y.vote Tryz.underlying26
  have e4 := run_eq_bool 9998 x.same y.same w
  have e5 := eq_rval1 x.c y.c _ rfl w
  have e6 := eq_refa1 x.f y.f _ rfl w
  subst hb
  have hE : eqJ x y = ((x.r == y.r && x.s == y.s) && ((x.st == y.st) && ((x.bal == y.bal) && ((x.vote == y.vote) && ((x.same == y.same) && (decide (x.c = y.c) && (eqA x.f y.f && true))))))) := by unfold eqJ; rw [Bool.and_true]
  rw [hE]
  clear hE
  simp only [Program.fieldsOf, Tryz.underlying48]
  exact eqf_cons (by decide) x0 y0 e0 (eqf_cons (by decide) x1 y1 e1 (eqf_cons (by decide) x2 y2 e2 (eqf_cons (by decide) x3 y3 e3 (eqf_cons (by decide) x4 y4 e4 (eqf_cons (by decide) x5 y5 e5 (eqf_cons (by decide) x6 y6 e6 eqf_nil))))))
theorem inst_guard : Tryz.prog.eqGuardType Tryz.prog.depth 37 = false := by kernel_rfl
theorem refx_guard : Tryz.prog.eqGuardType Tryz.prog.depth 48 = false := by kernel_rfl
end Go.Proofs.YtohffiehmmcgbaaGreatDoor
namespace Go.Proofs.YtohffiehmmcgbaaGreatDoor
open Go.ChangeShapes Go.WideShapes Go.ChangeAt Go.RowKit
set_option linter.unusedVariables false
set_option linter.unusedSimpArgs false
theorem wpList_wanted {P : Program} {ops : Array Oper} {Q : Exit → Act → World → Prop} {a : Act} {w : World} {rest : List Oper} {o : Oper} (hw : Region.wanted o (yielded ops a.tmps) = true)
    (h : ∀ K : Act → World → Prop, (∀ a w, wpList P ops Q rest a w → K a w) → o.wp P a w K Q) : wpList P ops Q (o :: rest) a w :=
  wpList_step fun K hK => by simp only [hw, if_true]; exact h K hK
theorem wpList_load_midg {P : Program} {ops : Array Oper} {rest : List Oper} {op : Oper} {a : Act} {w : World} {Q : Exit → Act → World → Prop} (hw : Region.wanted op (yielded ops a.tmps) = true) (ty : TypeId) (x : Operand) (ho : op.op = .load ty x)
    (b o : Nat) (hx : a.eval x = .pointer (some ⟨b, o, none⟩)) (cs : List Value) (d : TypeDesc) (hc : w.rangeAt b o cs)
    (hu : P.underlying ty = some d) (hd : d.isRow = true) (hi : (P.info? ty).map (·.size) = some cs.length)
    (h : wpList P ops Q rest (a.put op.dst (.agg cs.toArray)) w) : wpList P ops Q (op :: rest) a w :=
  wpList_wanted hw fun _ hK => wp_load_mid ty x ho b o hx cs d hc hu hd hi (hK _ _ h)
theorem wpList_load_rowg {P : Program} {ops : Array Oper} {rest : List Oper} {o : Oper} {a : Act} {w : World} {Q : Exit → Act → World → Prop} (hw : Region.wanted o (yielded ops a.tmps) = true) (ty : TypeId) (x : Operand) (ho : o.op = .load ty x)
    (g : Nat) (hx : a.eval x = .pointer (some ⟨g, 0, none⟩)) (t : TypeId) (cs : Array Value) (fr : Nat × Nat) (d : TypeDesc) (hg : w.heap[g]? = some (.cells cs t fr))
    (hu : P.underlying ty = some d) (hd : (match d with | .struct _ | .array _ _ => true | _ => false) = true) (hi : (P.info? ty).map (·.size) = some cs.size)
    (h : wpList P ops Q rest (a.put o.dst (.agg cs)) w) : wpList P ops Q (o :: rest) a w :=
  wpList_wanted hw fun _ hK => wp_load_row ty x ho g hx t cs fr d hg hu hd hi (hK _ _ h)
theorem info_inst : (Tryz.prog.info? 37).map (·.size) = some 22 := by kernel_rfl
theorem len_inst (x : J) : (Tryz.prog.info? 37).map (·.size) = some (rowJ x).size := by rw [rowJ_size]; exact info_inst
theorem size_inst (x y : J) : (rowJ x).size = (rowJ y).size := rfl
theorem rowJ_one (x : J) : (rowJ x).all (·.oneCell') = true := by simp [rowJ, Value.oneCell']
section
variable {w : World} {g : Nat} {T : TypeId} {x : J}
theorem Blk.j0 (h : Blk w g T (rowJ x)) : w.cell? ⟨g, 0, none⟩ = some (.int .i64 x.r) := (h.cell 0).trans rfl
theorem Blk.j1 (h : Blk w g T (rowJ x)) : w.cell? ⟨g, 1, none⟩ = some (.int .i64 x.s) := (h.cell 1).trans rfl
theorem Blk.j2 (h : Blk w g T (rowJ x)) : w.cell? ⟨g, 2, none⟩ = some (.int .i64 x.st) := (h.cell 2).trans rfl
theorem Blk.j3 (h : Blk w g T (rowJ x)) : w.cell? ⟨g, 3, none⟩ = some (.int .u32 x.bal) := (h.cell 3).trans rfl
theorem Blk.j4 (h : Blk w g T (rowJ x)) : w.cell? ⟨g, 4, none⟩ = some (.int .u32 x.vote) := (h.cell 4).trans rfl
theorem Blk.j5 (h : Blk w g T (rowJ x)) : w.cell? ⟨g, 5, none⟩ = some (.bool x.same) := (h.cell 5).trans rfl
abbrev lsK (c : K) : List Value := [.int .i64 c.kind, .int .u64 c.num, .string c.foot, .int .u64 c.req, .string c.path, .int .i64 c.mode, .int .u64 c.n, .int .i64 c.time]
abbrev ls8 (f : Nat → Int) : List Value := [.int .i64 (f 0), .int .i64 (f 1), .int .i64 (f 2), .int .i64 (f 3), .int .i64 (f 4), .int .i64 (f 5), .int .i64 (f 6), .int .i64 (f 7)]
theorem Blk.jc (h : Blk w g T (rowJ x)) : w.rangeAt g 6 (lsK x.c) := by
  intro j v hv
  have hj : j < 8 := (List.getElem?_eq_some_iff.1 hv).1
  have e : j = 0 ∨ j = 1 ∨ j = 2 ∨ j = 3 ∨ j = 4 ∨ j = 5 ∨ j = 6 ∨ j = 7 := by omega
  rw [h.cell, ← hv]
  rcases e with rfl | rfl | rfl | rfl | rfl | rfl | rfl | rfl <;> rfl
theorem Blk.ja (h : Blk w g T (rowJ x)) : w.rangeAt g 14 (ls8 x.f) := by
  intro j v hv
  have hj : j < 8 := (List.getElem?_eq_some_iff.1 hv).1
  have e : j = 0 ∨ j = 1 ∨ j = 2 ∨ j = 3 ∨ j = 4 ∨ j = 5 ∨ j = 6 ∨ j = 7 := by omega
  rw [h.cell, ← hv]
  rcases e with rfl | rfl | rfl | rfl | rfl | rfl | rfl | rfl <;> rfl
end
theorem info_cmd8 (c : K) : (Tryz.prog.info? 32).map (·.size) = some (lsK c).length := by kernel_rfl
theorem info_att8 (f : Nat → Int) : (Tryz.prog.info? 35).map (·.size) = some (ls8 f).length := by kernel_rfl
theorem newrow (r s : Int) : Value.agg #[.int .i64 r, .int .i64 s, .int .i64 0, .int .u32 0, .int .u32 0, .bool false, .int .i64 0, .int .u64 0, .string ⟨#[]⟩, .int .u64 0, .string ⟨#[]⟩, .int .i64 0, .int .u64 0, .int .i64 0, .int .i64 0, .int .i64 0, .int .i64 0, .int .i64 0, .int .i64 0, .int .i64 0, .int .i64 0, .int .i64 0] = .agg (rowJ (newJ r s)) := rfl
set_option maxRecDepth 100000 in
set_option maxHeartbeats 400000 in
theorem new_any (r s : Int) (w : World) :
    Calls Tryz.prog 39 #[nm r s] w fun e w' => e = .returned (.agg (rowJ (newJ r s))) ∧ Below w.heap.size w w' := by
  go_enter Tryz.func39, Tryz.ntmps39
  go_upto_region 1 with fail
  obtain ⟨W, hW⟩ : ∃ W, (w.alloc (.cells #[.int .i64 r, .int .i64 s] 25)).alloc (.cells (rowJ zeroJ) 37) = W := ⟨_, rfl⟩
  have hW' := hW
  simp only [rowJ, zeroJ] at hW'
  rw [hW']
  clear hW'
  obtain ⟨K0, K1, KB⟩ := two_new hW
  clear hW
  obtain ⟨k, hk⟩ : ∃ k, w.heap.size = k := ⟨_, rfl⟩
  rw [hk] at K0 K1 KB
  rw [hk]
  have HK := hid hk
  clear hk
  obtain ⟨⟨c0, c1⟩, _, _⟩ := blkn K0.out
  have L1 := hid (len_inst (newJ r s))
  have L2 := hid (size_inst zeroJ (newJ r s))
  have L3 := hid (rowJ_one (newJ r s))
  go_wp2_with (refine wpList_store_row (o := ⟨none, _, _, _, _, _⟩) rfl 37 (.tmp 2) (.tmp 4) rfl (k + 1) (rowJ (newJ r s)) rfl (newrow r s) 37 _ K1.out.heap L1.out L2.out L3.out ?_)
  exact bodyPost_ret (v := .agg (rowJ (newJ r s))) (results_cell_row (p := 2) (ty := 37) (by kernel_rfl) _ _ (k + 1) 37 (rowJ (newJ r s)) (0, 0) _ rfl (setRow_heap W (k + 1) _ (rowJ (newJ r s)) _ _ K1.out.heap) Tryz.underlying37 rfl L1.out) rfl ⟨rfl, by rw [HK.out]; exact below_setRow_ KB.out (by omega)⟩
set_option maxRecDepth 100000 in
set_option maxHeartbeats 400000 in
theorem isstatus_any (n : Int) (w : World) : Calls Tryz.prog 79 #[.int .i64 n] w fun e w' => e = .returned (.bool (statB n)) ∧ w = w' := by
  go_enter Tryz.func79, Tryz.ntmps79
  go_wp2
  all_goals go_ret
  all_goals exact ⟨ret_bool (by unfold statB; rw [Bool.eq_iff_iff]; simp; try omega), rfl⟩
set_option maxRecDepth 100000 in
set_option maxHeartbeats 400000 in
theorem maysame_any (x : J) (w : World) :
    Calls Tryz.prog 130 #[.agg (rowJ x)] w fun e w' => e = .returned (.bool (maySame x)) ∧ Below w.heap.size w w' := by
  have HV : Hid (maySame x = (x.st == 1 && x.vote == 0)) := hid rfl
  go_enter Tryz.func130, Tryz.ntmps130
  go_upto_region 1 with fail
  obtain ⟨W, hW⟩ : ∃ W, w.alloc (.cells (rowJ x) 37) = W := ⟨_, rfl⟩
  rw [hW]
  obtain ⟨K0, KB⟩ := one_new hW
  clear hW
  obtain ⟨k, hk⟩ : ∃ k, w.heap.size = k := ⟨_, rfl⟩
  rw [hk] at K0 KB
  rw [hk]
  have HK := hid hk
  clear hk
  have c2 := K0.out.j2
  have c4 := K0.out.j4
  rcases Decidable.em (x.st = 1) with h | h
  · have hb : (x.st == 1) = true := beq_iff_eq.2 h
    go_wp2
    go_ret
    exact ⟨ret_bool (by rw [HV.out, hb]; simp), by rw [HK.out]; exact KB.out⟩
  · have hb : (x.st == 1) = false := beq_eq_false_iff_ne.2 h
    go_wp2
    go_ret
    exact ⟨ret_bool (by rw [HV.out, hb]; simp), by rw [HK.out]; exact KB.out⟩
end Go.Proofs.YtohffiehmmcgbaaGreatDoor
