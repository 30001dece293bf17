/-
  The contracts of package crew's list: slices.IndexFunc and slices.DeleteFunc with a method value over a row of the call's own.
-/
import Derived.Test.YtkkjjhljlcabaaaCrew
import Derived.Lib.SliceRun
namespace Go.Proofs.Ytkkjjhljlcabaaa
open Go.ChangeShapes Go.WideShapes Go.ChangeAt Go.RowKit

/-- The first that a set lacks; -1, if it has all. -/
def FirstOut (s : Nat) (xs : List Int) (w : World) (e : Ending) (w' : World) : Prop :=
  w = w' ∧ ((e = .returned (.int .i64 (-1)) ∧ ∀ x ∈ xs, hasB s x = true) ∨ ∃ (k : Nat) (h : k < xs.length), e = .returned (.int .i64 k) ∧ hasB s xs[k] = false ∧ ∀ x ∈ xs.take k, hasB s x = true)

theorem ints_at {w : World} {A : Option Addr} {xs : List Int} (h : Vals w A (ints xs)) {j : Nat} (hj : j < xs.length) : ∃ b o, A = some ⟨b, o, none⟩ ∧ b < w.heap.size ∧ w.cell? ⟨b, o + j, none⟩ = some (.int .i64 xs[j]) := by
  have := h j (.int .i64 xs[j]) (by simp [ints, hj])
  exact this

set_option maxRecDepth 100000 in
set_option maxHeartbeats 400000 in
theorem index_any (s : Nat) (A : Option Addr) (xs : List Int) (n c : Nat) (w : World) (hs : s < 256) (hn : xs.length = n) (hm : n ≤ 9223372036854775807) (hv : Vals w A (ints xs)) :
    Calls Try.prog 26 #[.slice A n c, .func (.func 25) #[.int .u8 (s : Int)] #[]] w (FirstOut s xs w) := by
  have HV := hid hv
  have HN := hid hn
  clear hv hn
  go_enter Try.func26, Try.ntmps26
  go_wp2
  go_loop [5, 8] (fun _ i => ∃ k : Nat, k ≤ n ∧ i = .int .i64 k ∧ Hid (∀ x ∈ xs.take k, hasB s x = true)) (fun _ i => n - (intOf i).toNat)
  case atStart => exact ⟨0, Nat.zero_le _, rfl, hid (fun x hx => by simp at hx)⟩
  case round =>
    obtain ⟨k, hk, rfl, HA⟩ := hrel
    by_cases hlt : k < n
    · have hkl : k < xs.length := by rw [HN.out]; exact hlt
      obtain ⟨b, o, rfl, _, hcell⟩ := ints_at HV.out hkl
      have HT := hid (show xs.take (k + 1) = xs.take k ++ [xs[k]] from List.take_succ_eq_append_getElem hkl)
      obtain ⟨x, hx⟩ : ∃ x, xs[k] = x := ⟨_, rfl⟩
      have HX := hid hx
      rw [hx] at hcell
      clear hx
      cases hq : hasB s x with
      | true =>
        have HQ := hid hq
        clear hq
        go_wp2_with (go_at_call 25; refine (lacks_any s _ _ hs).mono ?_; rintro e w' ⟨rfl, rfl⟩; rw [HQ.out])
        go_round
        case rel =>
          refine ⟨k + 1, by omega, by go_num, hid ?_⟩
          intro y hy
          rw [HT.out, HX.out] at hy
          rcases List.mem_append.1 hy with hy | hy
          · exact HA.out y hy
          · rw [List.mem_singleton.1 hy]; exact HQ.out
        case measure => simp only [intOf]; omega
      | false =>
        have HQ := hid hq
        clear hq
        go_wp2_with (go_at_call 25; refine (lacks_any s _ _ hs).mono ?_; rintro e w' ⟨rfl, rfl⟩; rw [HQ.out])
        go_ret
        exact ⟨rfl, .inr ⟨k, hkl, rfl, by rw [HX.out]; exact HQ.out, HA.out⟩⟩
    · have hkc : Hid (xs.take k = xs) := hid (List.take_of_length_le (by rw [HN.out]; omega))
      go_wp2
      go_ret
      exact ⟨rfl, .inl ⟨rfl, fun x hx => HA.out x (by rw [hkc.out]; exact hx)⟩⟩

/-- What is known behind j of them: the first i are those of the first j that the set has; from j on all is as it was. -/
def Kept (s : Nat) (xs ys : List Int) (i j : Nat) : Prop := ys.length = xs.length ∧ i < j ∧ j ≤ xs.length ∧ i = ((xs.take j).filter (hasB s)).length ∧ ys.take i = (xs.take j).filter (hasB s) ∧ ∀ m, j ≤ m → ys[m]? = xs[m]?

theorem kept_start {s : Nat} {xs : List Int} {k : Nat} (hk : k < xs.length) (hx : hasB s xs[k] = false) (h : ∀ x ∈ xs.take k, hasB s x = true) : Kept s xs xs k (k + 1) := by
  have e : (xs.take (k + 1)).filter (hasB s) = xs.take k := by
    rw [List.take_succ_eq_append_getElem hk, List.filter_append, List.filter_eq_self.2 h]
    simp [hx]
  refine ⟨rfl, by omega, by omega, ?_, e.symm, fun _ _ => rfl⟩
  rw [e, List.length_take]; omega
theorem Kept.get {s : Nat} {xs ys : List Int} {i j : Nat} (h : Kept s xs ys i j) (hj : j < xs.length) : ∃ h' : j < ys.length, ys[j] = xs[j] := by
  have h1 := h.1
  refine ⟨by omega, ?_⟩
  have := h.2.2.2.2.2 j (Nat.le_refl _)
  rw [List.getElem?_eq_getElem (by omega), List.getElem?_eq_getElem hj] at this
  injection this
theorem Kept.keep {s : Nat} {xs ys : List Int} {i j : Nat} (h : Kept s xs ys i j) (hj : j < xs.length) (hx : hasB s xs[j] = true) : Kept s xs (ys.set i xs[j]) (i + 1) (j + 1) := by
  obtain ⟨h1, h2, h3, h4, h5, h6⟩ := h
  have e : (xs.take (j + 1)).filter (hasB s) = (xs.take j).filter (hasB s) ++ [xs[j]] := by
    rw [List.take_succ_eq_append_getElem hj, List.filter_append]
    simp [hx]
  refine ⟨by rw [List.length_set]; exact h1, by omega, by omega, by rw [e, List.length_append, ← h4]; rfl, ?_, fun m hm => ?_⟩
  · rw [e, ← h5, List.take_succ_eq_append_getElem (by rw [List.length_set]; omega), List.take_set_of_le (Nat.le_refl _), List.getElem_set_self]
  · rw [List.getElem?_set_ne (by omega)]
    exact h6 m (by omega)
theorem Kept.skip {s : Nat} {xs ys : List Int} {i j : Nat} (h : Kept s xs ys i j) (hj : j < xs.length) (hx : hasB s xs[j] = false) : Kept s xs ys i (j + 1) := by
  obtain ⟨h1, h2, h3, h4, h5, h6⟩ := h
  have e : (xs.take (j + 1)).filter (hasB s) = (xs.take j).filter (hasB s) := by
    rw [List.take_succ_eq_append_getElem hj, List.filter_append]
    simp [hx]
  exact ⟨h1, by omega, by omega, by rw [e]; exact h4, by rw [e]; exact h5, fun m hm => h6 m (by omega)⟩
theorem Kept.done {s : Nat} {xs ys : List Int} {i j : Nat} (h : Kept s xs ys i j) (hj : j = xs.length) : i = (xs.filter (hasB s)).length ∧ ys.take i = xs.filter (hasB s) := by
  obtain ⟨h1, h2, h3, h4, h5, h6⟩ := h
  subst hj
  rw [List.take_length] at h4 h5
  exact ⟨h4, h5⟩
theorem filter_all {s : Nat} {xs : List Int} (h : ∀ x ∈ xs, hasB s x = true) : xs.filter (hasB s) = xs := List.filter_eq_self.2 h
theorem ints_take (xs : List Int) (k : Nat) : (ints xs).take k = ints (xs.take k) := by simp [ints, List.map_take]
theorem ints_set (xs : List Int) (k : Nat) (x : Int) : (ints xs).set k (.int .i64 x) = ints (xs.set k x) := by simp [ints, List.map_set]

/-- A row of those that a set has, in the block that came in. -/
def Left (s : Nat) (xs : List Int) (base g c : Nat) (w : World) (e : Ending) (w' : World) : Prop :=
  e = .returned (.slice (some ⟨g, 0, none⟩) (xs.filter (hasB s)).length c) ∧ w'.ownsRow base 3 1 (.slice (some ⟨g, 0, none⟩) (xs.filter (hasB s)).length c) (xs.filter (hasB s)).length (ints (xs.filter (hasB s))) ∧ Below base w w'

theorem left_mk {s i n c g base : Nat} {xs ys : List Int} {w w1 : World} (hK : Kept s xs ys i n) (hx : xs.length = n) (ho : w1.ownsRow base 3 1 (.slice (some ⟨g, 0, none⟩) n c) n (ints ys)) (hb : Below base w w1) :
    Left s xs base g c w (.returned (.slice (some ⟨g, 0, none⟩) i c)) w1 := by
  obtain ⟨h1, h2⟩ := hK.done hx.symm
  have := own_cut (m := i) ho (by have := hK.2.1; omega)
  rw [ints_take, h2] at this
  unfold Left
  rw [← h1]
  exact ⟨rfl, this, hb⟩

theorem left_clear {s i c g base : Nat} {xs : List Int} {w w1 : World} (h : Left s xs base g c w (.returned (.slice (some ⟨g, 0, none⟩) i c)) w1) (hbg : base ≤ g) (vs : List Value) :
    Left s xs base g c w (.returned (.slice (some ⟨g, 0, none⟩) i c)) (w1.setCells g i vs) := by
  obtain ⟨he, ho, hb⟩ := h
  injection he with he
  injection he with _ he _
  subst he
  exact ⟨rfl, own_setCells vs _ _ (Nat.le_refl _) ho, below_setCells_ hbg vs _ _ hb⟩

set_option maxRecDepth 100000 in
set_option maxHeartbeats 1000000 in
theorem delete_any (s base g : Nat) (xs : List Int) (n c : Nat) (w : World) (hs : s < 256) (hn : xs.length = n) (hm : n ≤ 9223372036854775807) (h0 : 0 < n) (ho : w.ownsRow base 3 1 (.slice (some ⟨g, 0, none⟩) n c) n (ints xs)) :
    Calls Try.prog 24 #[.slice (some ⟨g, 0, none⟩) n c, .func (.func 25) #[.int .u8 (s : Int)] #[]] w (Left s xs base g c w) := by
  have hv := Vals.of_own ho
  obtain ⟨hbg, hcm⟩ : base ≤ g ∧ c ≤ maxLen := by
    obtain ⟨_, _, h1, _, h2⟩ := own_cell ho (show 0 < (ints xs).length by rw [ints_length]; omega)
    exact ⟨h1, h2⟩
  have hnc : n ≤ c := by
    rcases ho.2 with ⟨h, _⟩ | ⟨g', cap', cur, he, hb, hg, hc, hm, hs, ht⟩
    · cases h
    · injection he with he1 he2 he3; omega
  have HV := hid hv
  have HN := hid hn
  have HO := hid ho
  clear hv hn ho
  unfold maxLen at hcm
  go_enter Try.func24, Try.ntmps24
  go_wp2_with fail
  refine (index_any s _ xs n c _ hs HN.out hm HV.out).mono ?_
  rintro e w1 ⟨rfl, ⟨rfl, hall⟩ | ⟨k0, hk0, rfl, hx0, hall⟩⟩
  · have HF := hid (filter_all hall)
    clear hall
    go_wp2
    go_ret
    unfold Left
    rw [HF.out, HN.out]
    exact ⟨rfl, HO.out, Below.refl _ _⟩
  · have HK := hid (kept_start hk0 hx0 hall)
    have hkn : k0 < n := by rw [← HN.out]; exact hk0
    have hne : ((k0 : Int) == -1) = false := by rw [beq_eq_false_iff_ne]; omega
    clear hx0 hall
    go_wp2
    go_loopw [5, 6, 7] (fun iv jv _ wr => ∃ (i j : Nat) (ys : List Int), j ≤ n ∧ i < j ∧ iv = .int .i64 i ∧ jv = .int .i64 j ∧ Hid (Kept s xs ys i j) ∧ Hid (wr.ownsRow base 3 1 (.slice (some ⟨g, 0, none⟩) n c) n (ints ys)) ∧ Hid (Below base w wr)) (fun _ jv _ _ => n - (intOf jv).toNat)
    case atStart => exact ⟨k0, k0 + 1, xs, by omega, by omega, rfl, by go_num, HK, HO, hid (Below.refl _ _)⟩
    case round =>
      obtain ⟨i, j, ys, hj, hij, rfl, rfl, HK2, HO2, HB2⟩ := hrel
      by_cases hlt : j < n
      · have hjx : j < xs.length := by rw [HN.out]; exact hlt
        obtain ⟨hjy, hy⟩ := HK2.out.get hjx
        obtain ⟨hcell, -⟩ := own_cell HO2.out (show j < (ints ys).length by rw [ints_length]; exact hjy)
        obtain ⟨-, hfr, -⟩ := own_cell HO2.out (show i < (ints ys).length by rw [ints_length]; omega)
        have hold : ∃ v, wr.cell? ⟨g, i, none⟩ = some v := by
          obtain ⟨h, -⟩ := own_cell HO2.out (show i < (ints ys).length by rw [ints_length]; omega)
          exact ⟨_, h⟩
        obtain ⟨old, hold⟩ := hold
        rw [show (ints ys)[j]'(by rw [ints_length]; exact hjy) = .int .i64 xs[j] by simp [ints, hy]] at hcell
        clear hy
        cases hq : hasB s xs[j] with
        | true =>
          have HQ := hid hq
          have HS := hid (HK2.out.keep hjx hq)
          have HW := hid (show (wr.setCell ⟨g, i, none⟩ (.int .i64 xs[j])).ownsRow base 3 1 (.slice (some ⟨g, 0, none⟩) n c) n (ints (ys.set i xs[j])) by rw [← ints_set]; exact own_set HO2.out _)
          clear hq
          generalize xs[j] = x at hcell HQ HS HW
          go_wp2_with (go_at_call 25; refine (lacks_any s _ _ hs).mono ?_; rintro e w' ⟨rfl, rfl⟩; rw [HQ.out])
          go_roundw
          case rel => exact ⟨i + 1, j + 1, ys.set i x, by omega, by omega, by go_num, by go_num, HS, HW, hid (HB2.out.setCell hbg _)⟩
          case measure => simp only [intOf]; omega
        | false =>
          have HQ := hid hq
          have HS := hid (HK2.out.skip hjx hq)
          clear hq
          generalize xs[j] = x at hcell HQ
          go_wp2_with (go_at_call 25; refine (lacks_any s _ _ hs).mono ?_; rintro e w' ⟨rfl, rfl⟩; rw [HQ.out])
          go_roundw
          case rel => exact ⟨i, j + 1, ys, by omega, by omega, rfl, by go_num, HS, HO2, HB2⟩
          case measure => simp only [intOf]; omega
      · have hjn : j = n := by omega
        have hyl : (ints ys).length = n := by rw [ints_length, HK2.out.1, HN.out]
        have hcl : ∀ ty, (Builtin.clear_ #[29] ty #[.slice (some ⟨g, i, none⟩) (n - i) (c - i)]).run Try.prog wr = .ok (.tuple #[]) (wr.setCells g i (List.replicate (n - i) (.int .i64 0))) :=
          fun ty => Lib.run_clear_slice wr 29 3 ty (.int .i64 0) Try.underlying29 Try.zeroValue3 rfl rfl g i _ _ (by omega)
            (fun t ht => by rw [(own_cell HO2.out (k := i + t) (by omega)).1]; rfl) (fun t ht => (own_cell HO2.out (k := i + t) (by omega)).2.1)
        have HE := hid (left_mk (by rw [← hjn]; exact HK2.out) HN.out HO2.out HB2.out)
        clear hyl
        go_wp2
        go_ret
        exact left_clear HE.out hbg _

/-- The first k replicas, one by one. -/
def upto (k : Nat) : List Int := (List.range k).map fun i : Nat => (i : Int)
theorem upto_length (k : Nat) : (upto k).length = k := by simp [upto]
theorem upto_next (k : Nat) : ints (upto k) ++ [.int .i64 (k : Int)] = ints (upto (k + 1)) := by simp [ints, upto, List.range_succ]
/-- Those that are in a set, rising. -/
def listN (s : Nat) : List Int := (upto 7).filter (hasB s)

/-- A slice of integers, in memory of the call's own. -/
def Lists (l : List Int) (w : World) (e : Ending) (w' : World) : Prop := ∃ A c, e = .returned (.slice A l.length c) ∧ Vals w' A (ints l) ∧ Below w.heap.size w w'

theorem info_int : (Try.prog.info? 3).map (fun i => (i.zero, i.size, i.bytes)) = some (some (.int .i64 0), 1, 8) := by kernel_rfl
theorem one_int (W : World) (x : Int) (t : TypeId) : Vals (W.alloc (.cells #[.int .i64 x] t)) (some ⟨W.heap.size, 0, none⟩) [.int .i64 x] := by
  intro j u hj
  match j, hj with
  | 0, hj =>
    simp at hj
    subst hj
    exact ⟨W.heap.size, 0, rfl, by simp, by simp⟩

set_option maxRecDepth 100000 in
set_option maxHeartbeats 1000000 in
theorem list_any (s : Nat) (w : World) (hs : s < 256) : Calls Try.prog 11 #[.int .u8 (s : Int)] w (Lists (listN s) w) := by
  obtain ⟨i0, hi, hz0, hz1, hz2⟩ := info_parts info_int
  have hmf : ∀ (fn : Fn) (first cap : Array Value) (w : World), (Instr.makeFunc fn first cap).run Try.prog w = .ok (.func fn first cap) w := fun _ _ _ _ => rfl
  go_enter Try.func11, Try.ntmps11
  go_wp2
  go_loopw [3, 4, 5] (fun v _ i wr => ∃ k : Nat, k ≤ 7 ∧ i = .int .i64 k ∧ Hid (wr.ownsRow w.heap.size 3 1 v k (ints (upto k))) ∧ Hid (Below w.heap.size w wr)) (fun _ _ i _ => 7 - (intOf i).toNat)
  case atStart => exact ⟨0, by omega, rfl, hid (World.ownsRow_nil _ _ _ _), hid (Below.refl _ _)⟩
  case round =>
    obtain ⟨k, hk, rfl, HO, HB⟩ := hrel
    have hbz := HB.out.size
    by_cases hlt : k < 7
    · rename_i s3 _
      go_wp2_with (at_builtin; refine wpList_append_vals rfl (.tmp 8) (.tmp 10) 29 rfl w.heap.size 3 i0 _ 8 Try.underlying29 hi hz0 hz1 hz2 rfl _ k (ints (upto k)) rfl (HO.out.alloc _) _ 1 [.int .i64 (k : Int)] 1 rfl rfl (fun h => nomatch h) (one_int _ _ _) (by intro u hu; simp at hu; subst hu; rfl) (by unfold maxLen; omega) (by omega) (by simp; omega) ?_; intro v2 w2 hown2 hg2; have hb2 : Below w.heap.size w w2 := (HB.out.alloc HB.out.size _).grown hg2 (by simp; omega) (fun j hj => (HO.out.lt j hj).1); have HB2 := hid hb2; rw [upto_next] at hown2; have HO2 := hid hown2; clear hb2 hg2 hown2)
      go_roundw
      case rel => exact ⟨k + 1, by omega, by go_num, HO2, HB2⟩
      case measure => simp only [intOf]; omega
    · obtain rfl : k = 7 := by omega
      obtain ⟨g, c, rfl, -⟩ := HO.out.form (by omega)
      go_wp2_with fail
      refine (delete_any s w.heap.size g (upto 7) 7 c _ hs (upto_length 7) (by omega) (by omega) HO.out).mono ?_
      rintro e w1 ⟨rfl, ho, hb⟩
      have HO1 := hid ho
      have HB1 := hid (HB.out.trans hb)
      clear ho hb
      go_wp2
      go_ret
      exact ⟨_, c, rfl, Vals.of_own HO1.out, HB1.out⟩

end Go.Proofs.Ytkkjjhljlcabaaa
