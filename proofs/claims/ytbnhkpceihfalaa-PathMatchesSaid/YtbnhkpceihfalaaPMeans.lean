/-
  Contract of the law's own means.
-/
import Derived.Test.YtbnhkpceihfalaaPParts
import Derived.Test.YtbnhkpceihfalaaPMathE
import Derived.Deep.QuietTactic
import Derived.BigQuiet
import Derived.Deep.Draws
namespace Go.Proofs.Ytbnhkpceihfalaa
open Go.ChangeShapes Go.WideShapes Go.ChangeAt Go.RowKit

/-- An answer, and nothing made. -/
def Says (b : Bool) (w : World) (e : Ending) (w' : World) : Prop := e = .returned (.bool b) ∧ ∃ n, w' = w.drewN n

theorem holds_cons {w : World} {v : Value} {x : ByteArray} {xs : List ByteArray} (h : Holds w v (x :: xs)) :
    ∃ b o c, v = .slice (some ⟨b, o, none⟩) (xs.length + 1) c ∧ xs.length + 1 ≤ c ∧ c ≤ 9223372036854775807 ∧ w.cell? ⟨b, o, none⟩ = some (.string x) ∧
      ∃ A1, (∀ w2, (Instr.slice 29 (.slice (some ⟨b, o, none⟩) (xs.length + 1) c) (some (.int .i64 1)) none none).run Try.prog w2 = .ok (.slice A1 xs.length (c - 1)) w2) ∧ Holds w (.slice A1 xs.length (c - 1)) xs := by
  obtain ⟨A, c, rfl, hA, hc, hm, hv⟩ := h
  obtain ⟨i0, hi, hz0, hz1, hz2⟩ := info_parts info_str
  obtain ⟨b, o, rfl, _, hcell⟩ := strs_at hv (j := 0) (by simp)
  obtain ⟨A1, r1, g1, s1⟩ := vals_rest (P := Try.prog) 29 9 i0 Try.underlying29 hi hz1 (k := 1) (n := xs.length + 1) (by rw [strs_length]; rfl) (by omega) hc hv hA
  refine ⟨b, o, c, rfl, hc, by unfold maxLen at hm; omega, hcell, A1, r1, A1, c - 1, rfl, g1, by simp at hc; omega, by omega, s1⟩
theorem holds_nil {w : World} {v : Value} (h : Holds w v []) : ∃ A c, v = .slice A 0 c := by
  obtain ⟨A, c, rfl, _⟩ := h; exact ⟨A, c, rfl⟩
theorem holds_len {w : World} {v : Value} {xs : List ByteArray} (h : Holds w v xs) : ∃ A c, v = .slice A xs.length c ∧ xs.length ≤ 9223372036854775807 := by
  obtain ⟨A, c, rfl, _, h1, h2, _⟩ := h; unfold maxLen at h2; exact ⟨A, c, rfl, by omega⟩
theorem Holds.drewN {w : World} {v : Value} {xs : List ByteArray} (h : Holds w v xs) (n : Nat) : Holds (w.drewN n) v xs := h

set_option maxRecDepth 100000 in
set_option maxHeartbeats 2000000 in
theorem means_nil (v u : Value) (ys : List ByteArray) (w : World) (hv : Holds w v []) (hu : Holds w u ys) : Calls Try.prog 27 #[v, u] w (Says (means [] (ys.map L)) w) := by
  obtain ⟨A, c, rfl⟩ := holds_nil hv
  obtain ⟨A2, c2, rfl, _⟩ := holds_len hu
  have HM : Hid (means [] (ys.map L) = decide ((ys.length : Int) = 0)) := hid (by cases ys <;> simp [means] <;> omega)
  clear hv hu
  go_enter Try.func27, Try.ntmps27
  go_wp2
  go_ret
  refine ⟨ret_bool ?_, 0, rfl⟩
  rw [HM.out, Bool.eq_iff_iff]
  simp

def Rec (m : Nat) : Prop := ∀ (v u : Value) (xs ys : List ByteArray) (w : World), xs.length + ys.length ≤ m → Holds w v xs → Holds w u ys → Calls Try.prog 27 #[v, u] w (Says (means (xs.map L) (ys.map L)) w)

theorem Rec.use {m : Nat} (h : Rec m) (v u : Value) (xs ys : List ByteArray) (w : World) (hl : xs.length + ys.length ≤ m) (hv : Holds w v xs) (hu : Holds w u ys) : Calls Try.prog 27 #[v, u] w (Says (means (xs.map L) (ys.map L)) w) := h v u xs ys w hl hv hu

set_option maxRecDepth 100000 in
set_option maxHeartbeats 2000000 in
theorem means_short_walk (v u : Value) (x : ByteArray) (xs : List ByteArray) (w : World) (hx : L x ≠ [42, 42]) (hv : Holds w v (x :: xs)) (hu : Holds w u []) :
    Calls Try.prog 27 #[v, u] w (Says (means ((x :: xs).map L) []) w) := by
  obtain ⟨b, o, c, rfl, hc, hm, hcell, _⟩ := holds_cons hv
  obtain ⟨A2, c2, rfl⟩ := holds_nil hu
  have HM : Hid (means ((x :: xs).map L) [] = false) := hid (means_short hx _)
  obtain ⟨e1, e2⟩ := spell hx
  clear hv hu hx
  go_enter Try.func27, Try.ntmps27
  go_wp2
  go_ret
  exact ⟨ret_bool HM.out.symm, 0, rfl⟩

set_option maxRecDepth 100000 in
set_option maxHeartbeats 4000000 in
theorem means_star_walk (m : Nat) (ih : Rec m) (v u : Value) (x : ByteArray) (xs ys : List ByteArray) (w : World) (hl : xs.length + ys.length ≤ m) (hx : L x = [42, 42]) (hv : Holds w v (x :: xs)) (hu : Holds w u ys) :
    Calls Try.prog 27 #[v, u] w (Says (means ((x :: xs).map L) (ys.map L)) w) := by
  have hv0 := hv
  obtain ⟨b, o, c, rfl, hc, hm, hcell, A1, r1, h1⟩ := holds_cons hv
  have HV := hid hv0
  have HU := hid hu
  have HIH := hid ih
  have H1 := hid h1
  obtain ⟨e1, e2⟩ := spell_is hx
  have HM : Hid (means ((x :: xs).map L) (ys.map L) = (means (xs.map L) (ys.map L) || (!(ys.map L).isEmpty && means ((x :: xs).map L) (ys.map L).tail))) := hid (by
    rw [List.map_cons, hx]; exact means_star _ _)
  clear hv hv0 ih h1 hx
  cases hm1 : means (xs.map L) (ys.map L) with
  | true =>
    have HM1 := hid hm1
    obtain ⟨A2, c2, rfl, _⟩ := holds_len hu
    clear hm1 hu
    go_enter Try.func27, Try.ntmps27
    go_wp2_with fail
    with_reducible refine (Rec.use HIH.out _ _ xs ys _ hl H1.out HU.out).mono ?_
    rintro e w1 ⟨rfl, n, rfl⟩
    rw [HM1.out]
    go_wp2
    go_ret
    exact ⟨ret_bool (by rw [HM.out, HM1.out]; rfl), n, rfl⟩
  | false =>
    have HM1 := hid hm1
    cases ys with
    | nil =>
      obtain ⟨A2, c2, rfl⟩ := holds_nil hu
      clear hm1 hu
      go_enter Try.func27, Try.ntmps27
      go_wp2_with fail
      with_reducible refine (Rec.use HIH.out _ _ xs [] _ hl H1.out HU.out).mono ?_
      rintro e w1 ⟨rfl, n, rfl⟩
      rw [HM1.out]
      go_wp2
      go_ret
      exact ⟨ret_bool (by rw [HM.out, HM1.out]; rfl), n, rfl⟩
    | cons y ys =>
      obtain ⟨b2, o2, c2, rfl, hc2, hm2, hcell2, A2, r2, h2⟩ := holds_cons hu
      have H2 := hid h2
      simp only [List.length_cons] at hl
      clear hm1 hu h2
      go_enter Try.func27, Try.ntmps27
      go_wp2_with fail
      with_reducible refine (Rec.use HIH.out _ _ xs (y :: ys) _ (by simp only [List.length_cons]; exact hl) H1.out HU.out).mono ?_
      rintro e w1 ⟨rfl, n, rfl⟩
      rw [HM1.out]
      go_wp2_with fail
      with_reducible refine (Rec.use HIH.out _ _ (x :: xs) ys _ (by simp only [List.length_cons]; omega) (HV.out.drewN n) (H2.out.drewN n)).mono ?_
      rintro e w2 ⟨rfl, n2, rfl⟩
      go_wp2
      go_ret
      refine ⟨ret_bool ?_, n + n2, ?_⟩
      · rw [HM.out, HM1.out]; rfl
      · rfl

theorem Rec.quiet {m : Nat} (h : Rec m) (v u : Value) (xs ys : List ByteArray) (w : World) (n : Nat) (b : Bool) (hl : xs.length + ys.length ≤ m) (hv : Holds w v xs) (hu : Holds w u ys) (hb : means (xs.map L) (ys.map L) = b) :
    Calls Try.prog 27 #[v, u] (w.drewN n) fun e w'' => e = .returned (.bool b) ∧ ∃ k, w'' = w.drewN k := by
  subst hb
  exact Calls.quiet_of ((h v u xs ys (w.drewN n) hl (hv.drewN n) (hu.drewN n)).mono fun e w' h => h)

set_option maxRecDepth 100000 in
set_option maxHeartbeats 4000000 in
theorem means_part_walk (m : Nat) (ih : Rec m) (v u : Value) (x y : ByteArray) (xs ys : List ByteArray) (w : World) (hl : xs.length + ys.length ≤ m) (hx : L x ≠ [42, 42]) (hv : Holds w v (x :: xs)) (hu : Holds w u (y :: ys)) :
    Calls Try.prog 27 #[v, u] w (Says (means ((x :: xs).map L) ((y :: ys).map L)) w) := by
  obtain ⟨b, o, c, rfl, hc, hm, hcell, A1, r1, h1⟩ := holds_cons hv
  obtain ⟨b2, o2, c2, rfl, hc2, hm2, hcell2, A2, r2, h2⟩ := holds_cons hu
  have HIH := hid ih
  have H1 := hid h1
  have H2 := hid h2
  obtain ⟨e1, e2⟩ := spell hx
  have HM : Hid (means ((x :: xs).map L) ((y :: ys).map L) = ((decide (L x = [42]) || decide (L x = L y)) && means (xs.map L) (ys.map L))) := hid (means_cons hx _ _ _)
  obtain ⟨mb, hmb⟩ : ∃ mb, means (xs.map L) (ys.map L) = mb := ⟨_, rfl⟩
  have HMB := hid hmb
  clear hv hu ih h1 h2 hx hmb
  by_cases hs : L x = [42]
  · obtain ⟨e3, e4⟩ := spell_is hs
    have HR : Hid (means ((x :: xs).map L) ((y :: ys).map L) = mb) := hid (by rw [HM.out, HMB.out, decide_eq_true hs]; rfl)
    have e1 : (x.toList == [42, 42]) = false := by rw [e4]; decide
    clear hs e2 e4
    go_enter Try.func27, Try.ntmps27
    go_wp2
    go_quiet ((go_at_call 27; exact Rec.quiet HIH.out _ _ xs ys _ _ mb hl H1.out H2.out HMB.out))
    go_wp2
    go_ret
    exact ⟨ret_bool HR.out.symm, _, rfl⟩
  · obtain ⟨e3, e4⟩ := spell hs
    by_cases hxy : x = y
    · subst hxy
      have HR : Hid (means ((x :: xs).map L) ((x :: ys).map L) = mb) := hid (by rw [HM.out, HMB.out, decide_eq_false hs]; simp)
      clear hs
      go_enter Try.func27, Try.ntmps27
      go_wp2
      go_quiet ((go_at_call 27; exact Rec.quiet HIH.out _ _ xs ys _ _ mb hl H1.out H2.out HMB.out))
      go_wp2
      go_ret
      exact ⟨ret_bool HR.out.symm, _, rfl⟩
    · obtain ⟨e5, e6, e7⟩ := spell_ne hxy
      have HR : Hid (means ((x :: xs).map L) ((y :: ys).map L) = false) := hid (by
        rw [HM.out, decide_eq_false hs, decide_eq_false (fun e => hxy (L_inj.1 e))]; rfl)
      clear hs hxy
      go_enter Try.func27, Try.ntmps27
      go_wp2
      go_quiet (fail)
      go_wp2
      go_ret
      exact ⟨ret_bool HR.out.symm, _, rfl⟩

theorem means_rec : ∀ m, Rec m
  | 0 => fun v u xs ys w hl hv hu => by
    obtain rfl : xs = [] := List.eq_nil_of_length_eq_zero (by omega)
    exact means_nil v u ys w hv hu
  | m + 1 => fun v u xs ys w hl hv hu => by
    cases xs with
    | nil => exact means_nil v u ys w hv hu
    | cons x xs =>
      simp only [List.length_cons] at hl
      by_cases hx : L x = [42, 42]
      · exact means_star_walk m (means_rec m) v u x xs ys w (by omega) hx hv hu
      · cases ys with
        | nil => exact means_short_walk v u x xs w hx hv hu
        | cons y ys =>
          simp only [List.length_cons] at hl
          exact means_part_walk m (means_rec m) v u x y xs ys w (by omega) hx hv hu

theorem lawmeans_any (v u : Value) (xs ys : List ByteArray) (w : World) (hv : Holds w v xs) (hu : Holds w u ys) : Calls Try.prog 27 #[v, u] w (Asks (.bool (means (xs.map L) (ys.map L))) w) :=
  (means_rec _ v u xs ys w (Nat.le_refl _) hv hu).mono fun _ _ ⟨he, n, hn⟩ => ⟨he, by rw [hn]; exact below_drewN (Below.refl _ _) n⟩

end Go.Proofs.Ytbnhkpceihfalaa
