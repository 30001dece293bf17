/-
  The order of sessions: package lease's compare, and what it calls; its sort.
-/
import Derived.Test.YtbeeklpfbnhdnaaLsAnch
import Derived.Test.YtbeeklpfbnhdnaaSort
import Derived.Sort.Grow
import Derived.Lib.OwnBridge
namespace Go.Proofs.Ytbeeklpfbnhdnaa
open Go.ChangeShapes Go.WideShapes Go.ChangeAt Go.RowKit Go.Maps Go.WideMaps Go.Shelf Go.Sort
set_option linter.unusedVariables false
set_option linter.unusedSimpArgs false

theorem isnanu_any (u : Int) (w : World) : Calls Try.prog 75 #[.int .u64 u] w fun e w' => e = .returned (.bool false) ∧ w = w' := by
  go_enter Try.func75, Try.ntmps75
  go_wp2
  go_ret
  exact ⟨rfl, rfl⟩

set_option maxRecDepth 100000 in
theorem cmpu_any (u v : Int) (w : World) : Calls Try.prog 61 #[.int .u64 u, .int .u64 v] w fun e w' => e = .returned (.int .i64 (Lib.compareInt u v)) ∧ w = w' := by
  rcases (show u < v ∨ v < u ∨ u = v by omega) with h | h | h
  · have hr : Hid (Lib.compareInt u v = -1) := hid (by unfold Lib.compareInt; rw [if_pos h])
    go_enter Try.func61, Try.ntmps61
    go_wp2_with (go_at_call 75; refine (isnanu_any _ _).mono ?_; rintro e w' ⟨rfl, rfl⟩)
    go_ret
    exact ⟨ret_num hr.out.symm, rfl⟩
  · have hr : Hid (Lib.compareInt u v = 1) := hid (by unfold Lib.compareInt; rw [if_neg (by omega), if_pos h])
    have h2 : ¬ u < v := by omega
    go_enter Try.func61, Try.ntmps61
    go_wp2_with (go_at_call 75; refine (isnanu_any _ _).mono ?_; rintro e w' ⟨rfl, rfl⟩)
    go_ret
    exact ⟨ret_num hr.out.symm, rfl⟩
  · subst h
    have hr : Hid (Lib.compareInt u u = 0) := hid (by unfold Lib.compareInt; rw [if_neg (by omega), if_neg (by omega)])
    go_enter Try.func61, Try.ntmps61
    go_wp2_with (go_at_call 75; refine (isnanu_any _ _).mono ?_; rintro e w' ⟨rfl, rfl⟩)
    go_ret
    exact ⟨ret_num hr.out.symm, rfl⟩

def orK (p q : Int) : Int := if p = 0 then q else p

set_option maxRecDepth 100000 in
theorem or_any (b cap : Nat) (p q : Int) (w : World) (h0 : w.cell? ⟨b, 0, none⟩ = some (.int .i64 p)) (h1 : w.cell? ⟨b, 1, none⟩ = some (.int .i64 q)) :
    Calls Try.prog 60 #[.slice (some ⟨b, 0, none⟩) 2 cap] w fun e w' => e = .returned (.int .i64 (orK p q)) ∧ w = w' := by
  have HK : Hid (∀ x, orK p q = x ↔ (p = 0 ∧ q = x) ∨ (p ≠ 0 ∧ p = x)) := hid (fun x => by unfold orK; split <;> simp_all)
  go_enter Try.func60, Try.ntmps60
  go_wp2_with fail
  go_loop [8] (fun iv => ∃ j : Nat, j ≤ 2 ∧ iv = .int .i64 j ∧ (0 < j → p = 0) ∧ (1 < j → q = 0)) (fun iv => 2 - (intOf iv).toNat)
  case atStart => exact ⟨0, by omega, rfl, by omega, by omega⟩
  case round =>
    obtain ⟨j, hj, rfl, hp, hq⟩ := hrel
    rcases (show j = 0 ∨ j = 1 ∨ j = 2 by omega) with rfl | rfl | rfl
    · by_cases hp0 : p = 0
      · subst hp0
        go_wp2
        go_round
        case rel => exact ⟨1, by omega, rfl, by simp, by omega⟩
        case measure => simp [intOf]
      · have H : Hid (orK p q = p) := hid (by unfold orK; rw [if_neg hp0])
        go_wp2
        go_ret
        exact ⟨ret_num H.out.symm, rfl⟩
    · have hp0 := hp (by omega)
      subst hp0
      by_cases hq0 : q = 0
      · subst hq0
        go_wp2
        go_round
        case rel => exact ⟨2, by omega, rfl, by simp, by simp⟩
        case measure => simp [intOf]
      · have H : Hid (orK 0 q = q) := hid (by unfold orK; rw [if_pos rfl])
        go_wp2
        go_ret
        exact ⟨ret_num H.out.symm, rfl⟩
    · have hp0 := hp (by omega)
      have hq0 := hq (by omega)
      subst hp0 hq0
      have H : Hid (orK 0 0 = 0) := hid (by unfold orK; rw [if_pos rfl])
      go_wp2
      go_ret
      exact ⟨ret_num H.out.symm, rfl⟩


abbrev SidT : Type := Int × ByteArray
instance : Inhabited SidT := ⟨(0, ⟨#[]⟩)⟩
theorem cbytes_lt : ∀ a b : List UInt8, (Lib.compareBytes a b < 0 ↔ a < b) ∧ (Lib.compareBytes a b = 0 ↔ a = b) ∧ (0 < Lib.compareBytes a b ↔ b < a)
  | [], [] => by simp [Lib.compareBytes, List.lt_irrefl]
  | [], b :: bs => by simp [Lib.compareBytes]
  | a :: r, [] => by simp [Lib.compareBytes]
  | a :: r, b :: bs => by
    obtain ⟨h1, h2, h3⟩ := cbytes_lt r bs
    unfold Lib.compareBytes
    rw [List.cons_lt_cons_iff, List.cons_lt_cons_iff]
    by_cases hab : a < b
    · rw [if_pos hab]
      have hne : a ≠ b := fun e => by subst e; exact absurd hab (UInt8.lt_irrefl a)
      have hba : ¬ b < a := UInt8.lt_asymm hab
      simp [hab, hne, hba, Ne.symm hne]
    · rw [if_neg hab]
      by_cases hba : b < a
      · rw [if_pos hba]
        have hne : a ≠ b := fun e => by subst e; exact absurd hba (UInt8.lt_irrefl a)
        simp [hab, hne, hba, Ne.symm hne]
      · rw [if_neg hba]
        have e : a = b := UInt8.le_antisymm (UInt8.not_lt.1 hba) (UInt8.not_lt.1 hab)
        subst e
        simp [hab, h1, h2, h3]
theorem three_growL (w : World) (A B C : Obj) : (((w.alloc A).alloc B).alloc C).drew = grow (w.drewN 1) #[A, B, C] := by rw [alloc_eq_grow, alloc_eq_grow, alloc_eq_grow, grow_grow, grow_grow]; rfl
/-- The order of two sessions: by number, then by footprint, byte by byte. -/
def cmpS (x y : SidT) : Int := orK (Lib.compareInt x.1 y.1) (Lib.compareBytes x.2.data.toList y.2.data.toList)
theorem cmpS_lt (x y : SidT) : cmpS x y < 0 ↔ ltK x.1 x.2 y.1 y.2 = true := by
  obtain ⟨h1, h2, h3⟩ := cbytes_lt x.2.data.toList y.2.data.toList
  unfold cmpS orK ltK ltF Lib.compareInt
  simp only [Bool.or_eq_true, Bool.and_eq_true, decide_eq_true_eq]
  rcases Int.lt_trichotomy x.1 y.1 with h | h | h
  · have e : (if (if x.1 < y.1 then (-1 : Int) else if x.1 > y.1 then 1 else 0) = 0 then Lib.compareBytes x.2.data.toList y.2.data.toList else if x.1 < y.1 then (-1 : Int) else if x.1 > y.1 then 1 else 0) = -1 := by
      rw [if_pos h]; rfl
    rw [e]; simp [h]
  · have e : (if (if x.1 < y.1 then (-1 : Int) else if x.1 > y.1 then 1 else 0) = 0 then Lib.compareBytes x.2.data.toList y.2.data.toList else if x.1 < y.1 then (-1 : Int) else if x.1 > y.1 then 1 else 0) = Lib.compareBytes x.2.data.toList y.2.data.toList := by
      rw [if_neg (show ¬ x.1 < y.1 by omega), if_neg (show ¬ x.1 > y.1 by omega), if_pos rfl]
    rw [e, h1]
    constructor
    · intro hh; exact .inr ⟨h, hh⟩
    · rintro (hh | hh)
      · omega
      · exact hh.2
  · have e : (if (if x.1 < y.1 then (-1 : Int) else if x.1 > y.1 then 1 else 0) = 0 then Lib.compareBytes x.2.data.toList y.2.data.toList else if x.1 < y.1 then (-1 : Int) else if x.1 > y.1 then 1 else 0) = 1 := by
      rw [if_neg (show ¬ x.1 < y.1 by omega), if_pos (show x.1 > y.1 from h)]; rfl
    rw [e]
    constructor
    · intro hh; omega
    · rintro (hh | ⟨hh, _⟩) <;> omega
theorem lt_cmpS (x y : SidT) : ltOf cmpS x y = ltK x.1 x.2 y.1 y.2 := by
  have : ltOf cmpS x y = decide (cmpS x y < 0) := rfl
  rw [this, Bool.eq_iff_iff, decide_eq_true_eq]
  exact cmpS_lt x y
theorem ltK_asymm {u v : Int} {f g : ByteArray} (h : ltK u f v g = true) : ltK v g u f = false := by
  cases h2 : ltK v g u f
  · rfl
  · have := ltK_trans h h2
    rw [ltK_irr] at this
    cases this
theorem swoS : SWO (ltOf cmpS) where
  irrefl x := by rw [lt_cmpS, ltK_irr]
  trans x y z h1 h2 := by
    rw [lt_cmpS] at *
    exact ltK_trans h1 h2
  ntrans x y z h1 h2 := by
    rw [lt_cmpS] at *
    cases h3 : ltK x.1 x.2 z.1 z.2
    · rfl
    · by_cases e : x.1 = y.1 ∧ x.2 = y.2
      · rw [e.1, e.2, h2] at h3; cases h3
      · rcases ltK_total e with h4 | h4
        · rw [h4] at h1; cases h1
        · have := ltK_trans h4 h3
          rw [this] at h2; cases h2
/-- Sessions' names that rise. -/
def RiseS (l : List SidT) : Prop := l.Pairwise fun a b => ltK a.1 a.2 b.1 b.2 = true
theorem rises_extS : ∀ {a b : List SidT}, RiseS a → RiseS b → (∀ x, x ∈ a ↔ x ∈ b) → a = b
  | [], [], _, _, _ => rfl
  | [], y :: b, _, _, h => absurd ((h y).2 (by simp)) (by simp)
  | x :: a, [], _, _, h => absurd ((h x).1 (by simp)) (by simp)
  | x :: a, y :: b, ha, hb, h => by
    unfold RiseS at ha hb
    rw [List.pairwise_cons] at ha hb
    have e : x = y := by
      rcases List.mem_cons.1 ((h x).1 (by simp)) with h1 | h1
      · exact h1
      · rcases List.mem_cons.1 ((h y).2 (by simp)) with h2 | h2
        · exact h2.symm
        · have h3 := ha.1 y h2
          have h4 := hb.1 x h1
          rw [ltK_asymm h3] at h4
          cases h4
    subst e
    congr 1
    refine rises_extS ha.2 hb.2 fun z => ?_
    constructor
    · intro hz
      rcases List.mem_cons.1 ((h z).1 (by simp [hz])) with h1 | h1
      · subst h1; have := ha.1 z hz; rw [ltK_irr] at this; cases this
      · exact h1
    · intro hz
      rcases List.mem_cons.1 ((h z).2 (by simp [hz])) with h1 | h1
      · subst h1; have := hb.1 z hz; rw [ltK_irr] at this; cases this
      · exact h1
/-- What a sort leaves, of sessions that are all unlike. -/
theorem riseS_of_sorted {es : List SidT} (hn : es.Nodup) {d : Array SidT} (h1 : PermIn 0 es.toArray.size es.toArray d) (h2 : SortedIn (ltOf cmpS) 0 es.toArray.size d) : RiseS d.toList ∧ ∀ x, x ∈ d.toList ↔ x ∈ es := by
  obtain ⟨hs, _, hp⟩ := h1
  have hs' : d.size = es.length := by simpa using hs
  have hp2 : d.toList.Perm es := by
    have e1 : (d.extract 0 es.toArray.size).toList = d.toList := by simp [← hs']
    have e2 : (es.toArray.extract 0 es.toArray.size).toList = es := by simp
    rw [e1, e2] at hp
    exact hp
  refine ⟨?_, fun x => hp2.mem_iff⟩
  have hnd : d.toList.Nodup := hp2.nodup_iff.2 hn
  unfold RiseS
  rw [List.pairwise_iff_getElem]
  intro i j hi hj hij
  have h3 := h2 i j (Nat.zero_le _) hij (by simpa [hs'] using hj)
  have ei : d[i]! = d.toList[i] := by simp at hi; rw [getElem!_pos d i hi]; rfl
  have ej : d[j]! = d.toList[j] := by simp at hj; rw [getElem!_pos d j hj]; rfl
  rw [ei, ej, lt_cmpS] at h3
  have h4 : d.toList[i] ≠ d.toList[j] := (List.pairwise_iff_getElem.1 hnd) i j hi hj hij
  have h5 : ¬ (d.toList[i].1 = d.toList[j].1 ∧ d.toList[i].2 = d.toList[j].2) := fun ⟨a, b⟩ => h4 (Prod.ext a b)
  rcases ltK_total h5 with h6 | h6
  · exact h6
  · rw [h3] at h6; cases h6

set_option maxRecDepth 100000 in
set_option maxHeartbeats 4000000 in
theorem lcompare_any (u : Int) (f : ByteArray) (v : Int) (g : ByteArray) (w : World) :
    Calls Try.prog 50 #[sesV u f, sesV v g] w fun e w' => e = .returned (.int .i64 (cmpS (u, f) (v, g))) ∧ ∃ q os', w' = grow (w.drewN q) os' := by
  have HC := hid (fun w => Try.strings_Compare f g w)
  have HU := hid (fun w => cmpu_any u v w)
  obtain ⟨p, hp⟩ : ∃ p, Lib.compareBytes f.data.toList g.data.toList = p := ⟨_, rfl⟩
  obtain ⟨q, hq⟩ : ∃ q, Lib.compareInt u v = q := ⟨_, rfl⟩
  have HR : Hid (cmpS (u, f) (v, g) = orK q p) := hid (by unfold cmpS; dsimp only; rw [hp, hq])
  rw [hp] at HC
  rw [hq] at HU
  clear hp hq
  go_enter Try.func50, Try.ntmps50
  go_upto_region 1 with fail
  obtain ⟨W, hW⟩ : ∃ W, (w.alloc (.cells #[.int .u64 u, .string f] 25)).alloc (.cells #[.int .u64 v, .string g] 25) = W := ⟨_, rfl⟩
  rw [hW]
  obtain ⟨K0, K1, KB⟩ := ltwo_new hW
  have HW := hid hW
  clear hW
  obtain ⟨k, hk⟩ : ∃ k, w.heap.size = k := ⟨_, rfl⟩
  rw [hk] at K0 K1 KB
  rw [hk]
  clear hk
  have L0 := hid (fun o => K0.out.below ((Below.refl _ W).alloc (Nat.le_refl _) o) K0.out.lt)
  have L1 := hid (fun o => K1.out.below ((Below.refl _ W).alloc (Nat.le_refl _) o) K1.out.lt)
  go_region_held3 (fun w' => (w'.cell? ⟨k, 0, none⟩ = some (.int .u64 u) ∧ w'.cell? ⟨k, 1, none⟩ = some (.string f)) ∧ w'.cell? ⟨k + 1, 0, none⟩ = some (.int .u64 v) ∧ w'.cell? ⟨k + 1, 1, none⟩ = some (.string g))
    (first | exact ⟨⟨((K0.out).cell 0).trans rfl, ((K0.out).cell 1).trans rfl⟩, ((K1.out).cell 0).trans rfl, ((K1.out).cell 1).trans rfl⟩ | exact ⟨⟨((K0.out.drew).cell 0).trans rfl, ((K0.out.drew).cell 1).trans rfl⟩, ((K1.out.drew).cell 0).trans rfl, ((K1.out.drew).cell 1).trans rfl⟩ | exact ⟨⟨(((L0.out _).drew).cell 0).trans rfl, (((L0.out _).drew).cell 1).trans rfl⟩, (((L1.out _).drew).cell 0).trans rfl, (((L1.out _).drew).cell 1).trans rfl⟩)
    (first
      | (go_at_call 62; (with_reducible refine (HC.out _).mono ?_); rintro e1 w1 ⟨rfl, rfl⟩)
      | (go_at_call 61; (with_reducible refine (HU.out _).mono ?_); rintro e1 w2 ⟨rfl, rfl⟩)
      | (go_at_call 60; (with_reducible refine (or_any _ _ q p _ (by simp) (by simp)).mono ?_); rintro e1 w3 ⟨rfl, rfl⟩))
  rename_i hHeld
  clear hHeld
  go_wp2
  go_ret
  exact ⟨ret_num HR.out.symm, 1, #[.cells #[.int .u64 u, .string f] 25, .cells #[.int .u64 v, .string g] 25, .cells #[.int .i64 q, .int .i64 p] 3], by rw [← HW.out]; exact three_growL _ _ _ _⟩

/-- Sessions' cells. -/
def sidC (y : SidT) : List Value := [.int .u64 y.1, .string y.2]
theorem sidC_one (y : SidT) : ∀ v ∈ sidC y, v.oneCell' = true := by
  intro v hv
  simp [sidC] at hv
  rcases hv with rfl | rfl <;> rfl
def flatS (ks : List SidT) : List Value := ks.flatMap sidC
theorem flatS_len : ∀ l : List SidT, (flatS l).length = l.length * 2
  | [] => rfl
  | n :: l => by
    have := flatS_len l
    unfold flatS at *
    rw [List.flatMap_cons, List.length_append, this, List.length_cons]
    show 2 + l.length * 2 = (l.length + 1) * 2
    omega
theorem flatS_get : ∀ {l : List SidT} {j i : Nat} (hj : j < l.length), i < 2 → (flatS l)[j * 2 + i]? = (sidC l[j])[i]?
  | n :: l, 0, i, _, hi => by
    unfold flatS
    rw [List.flatMap_cons, Nat.zero_mul, Nat.zero_add, List.getElem?_append_left (by show i < 2; exact hi)]
    rfl
  | n :: l, j + 1, i, hj, hi => by
    have ih := flatS_get (l := l) (j := j) (i := i) (by simpa using hj) hi
    unfold flatS at *
    rw [List.flatMap_cons, List.getElem?_append_right (by show 2 ≤ _; omega)]
    have e : (j + 1) * 2 + i - (sidC n).length = j * 2 + i := by show (j + 1) * 2 + i - 2 = _; omega
    rw [e, ih]
    rfl
theorem flat_getS (ks : List SidT) {j : Nat} (hj : j < ks.length * 2) : (flatS ks)[j]? = some ((flatK sidC 2 ks.toArray)[j]!) := by
  have hd : j / 2 < ks.length := by omega
  have e : j / 2 * 2 + j % 2 = j := by omega
  rw [get_flatK _ _ _ _ (by simpa using hj)]
  have h1 := flatS_get (l := ks) (j := j / 2) (i := j % 2) hd (by omega)
  rw [e] at h1
  rw [h1]
  have h2 : ks.toArray[j / 2]! = ks[j / 2] := by rw [getElem!_pos _ _ (by simpa using hd)]; simp
  rw [h2]
  have h3 : j % 2 < (sidC ks[j / 2]).length := by show j % 2 < 2; omega
  rw [getElem!_pos (sidC ks[j / 2]) (j % 2) h3]
  exact List.getElem?_eq_getElem h3
theorem below_growL {B : Nat} {a w : World} (h : Below B a w) (hB : B ≤ w.heap.size) (os : Array Obj) : Below B a (grow w os) :=
  ⟨h.os, h.tape, h.output, by have := h.size; simp [grow]; omega, fun k hk => by
    rw [← h.block k hk]
    show (w.heap ++ os)[k]? = w.heap[k]?
    rw [Array.getElem?_append_left (by omega)]⟩

set_option maxRecDepth 100000 in
set_option maxHeartbeats 2000000 in
theorem sids_sorted {w : World} {base g N : Nat} {ks : List SidT} (hn : ks.Nodup) (hR : w.ownsRow base 25 2 (.slice (some ⟨g, 0, none⟩) ks.length N) ks.length (flatS ks)) (hlen : ks.length < 10000000) :
    Calls Try.prog 49 #[.slice (some ⟨g, 0, none⟩) ks.length N, .func (.func 50) #[] #[]] w fun e w' => e = .returned (.tuple #[]) ∧ ∃ ds : List SidT, ds.length = ks.length ∧ RiseS ds ∧ (∀ x, x ∈ ds ↔ x ∈ ks) ∧
      (∀ j v, (flatS ds)[j]? = some v → w'.cell? ⟨g, j, none⟩ = some v) ∧ Below base w w' ∧ g < w'.heap.size := by
  have hg : g < w.heap.size := (hR.lt g rfl).2
  have hbg : base ≤ g := (hR.lt g rfl).1
  have eg : ∀ args w, (callFunc 50 args).run Try.prog w = .ok (.enter 50 args) w := enters_of Try.func50 (by kernel_rfl) rfl
  have hH : HoldsK sidC 2 w g 0 ks.toArray := fun j hj => by
    rw [size_flatK] at hj
    have hj' : j < ks.length * 2 := by simpa using hj
    rw [Nat.zero_add]
    exact ⟨by rw [hR.cellAt j hj', flat_getS ks hj']; rfl, hR.frozenAt j⟩
  have hcmp : CmpLays Try.prog 50 #[] sidC 2 cmpS g 0 ks.toArray.size w := fun m os dk _ x y => lcompare_any x.1 x.2 y.1 y.2 _
  have hcon := AnyQ.slices_SortFunc Try.sortE 2 Try.isAgg25 Try.sizeOf25 sidC (fun _ => rfl) (fun x v hv => sidC_one _ v hv) cmpS swoS 50 #[] g 0 N ks.toArray w eg hcmp hH hg (by simp; omega)
  have hcon2 : Calls Try.prog 49 #[.slice (some ⟨g, 0, none⟩) ks.length N, .func (.func 50) #[] #[]] w _ := hcon
  refine hcon2.mono fun e w' ⟨he, d, n, os, h1, h2, hw⟩ => ⟨he, d.toList, ?_, ?_, ?_, ?_, ?_, ?_⟩
  · have := h1.1
    simpa using this
  · exact (riseS_of_sorted hn h1 h2).1
  · exact (riseS_of_sorted hn h1 h2).2
  · intro j v hv
    have hs : d.size = ks.toArray.size := h1.1
    have hH2 : HoldsK sidC 2 w' g 0 d := by rw [hw]; exact holdsK_sortWorldK_c sidC 2 w g 0 ks.toArray d n os hH hg hs
    have hj : j < d.toList.length * 2 := by
      have := (List.getElem?_eq_some_iff.1 hv).1
      rw [flatS_len] at this
      simpa using this
    rw [flat_getS d.toList hj] at hv
    have h3 := (hH2 j (by rw [size_flatK]; simpa using hj)).1
    rw [Nat.zero_add] at h3
    rw [h3]
    exact hv
  · rw [hw]
    exact below_growL (Lib.below_putRow (Below.refl base w) hbg) (by show base ≤ (putRow _ _ _ _ _).heap.size; rw [Sort.size_putRow]; exact Nat.le_trans hbg (Nat.le_of_lt hg)) os
  · rw [hw]
    show g < (grow (putRow _ _ _ _ _) os).heap.size
    simp [grow]
    have : (Sort.ahead w n).heap.size = w.heap.size := rfl
    omega

/-- A slice of sessions, as it is read. -/
def SeesT (w : World) (A : Option Addr) (l : List SidT) : Prop := ∀ (j : Nat) (y : SidT), l[j]? = some y → ∃ b o, A = some ⟨b, o, none⟩ ∧ b < w.heap.size ∧ w.rangeAt b (o + j * 2) (sidC y)
theorem SeesT.nil (w : World) (A : Option Addr) : SeesT w A [] := fun j x h => by simp at h
theorem SeesT.below {w w' : World} {A : Option Addr} {l : List SidT} (h : SeesT w A l) (hb : Below w.heap.size w w') : SeesT w' A l := fun j x hj => by
  obtain ⟨b, o, h1, h2, h3⟩ := h j x hj
  exact ⟨b, o, h1, Nat.lt_of_lt_of_le h2 hb.size, fun i v hv => (hb.cell (p := ⟨b, o + j * 2 + i, none⟩) h2).trans (h3 i v hv)⟩
theorem SeesT.of {w : World} {g : Nat} {l : List SidT} (hg : g < w.heap.size) (h : ∀ j v, (flatS l)[j]? = some v → w.cell? ⟨g, j, none⟩ = some v) : SeesT w (some ⟨g, 0, none⟩) l := fun j y hj => by
  obtain ⟨hj1, hj2⟩ := List.getElem?_eq_some_iff.1 hj
  refine ⟨g, 0, rfl, hg, fun i v hv => ?_⟩
  rw [Nat.zero_add]
  have hi : i < 2 := (List.getElem?_eq_some_iff.1 hv).1
  refine h (j * 2 + i) v ?_
  rw [flatS_get hj1 hi, hj2]
  exact hv

end Go.Proofs.Ytbeeklpfbnhdnaa
