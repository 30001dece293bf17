/-
  The first frame among some replicas (package net: First).
-/
import Derived.Test.YtljnboimadhkoaaNtList
namespace Go.Proofs.Ytljnboimadhkoaa
open Go.ChangeShapes Go.WideShapes Go.ChangeAt Go.RowKit
set_option linter.unusedVariables false
set_option linter.unusedSimpArgs false

/-- Is a frame from one of the set to one of it? -/
def amongN (s : Nat) (f : FrL) : Bool := hasB s f.fr && hasB s f.to
def firstL (s : Nat) (l : List FrL) : Option Nat := l.findIdx? (amongN s)
def firstV (o : Option Nat) : Value := match o with | some i => .tuple #[.int .i64 (i : Int), .bool true] | none => .tuple #[.int .i64 0, .bool false]
theorem firstL_at {s : Nat} {l : List FrL} {j : Nat} {f : FrL} (hj : l[j]? = some f) (hf : amongN s f = true) (hno : ∀ (i : Nat) (g : FrL), i < j → l[i]? = some g → amongN s g = false) : firstL s l = some j := by
  obtain ⟨h1, h2⟩ := List.getElem?_eq_some_iff.1 hj
  unfold firstL
  rw [List.findIdx?_eq_some_iff_getElem]
  refine ⟨h1, by rw [h2]; exact hf, fun i hi => ?_⟩
  rw [hno i _ hi (List.getElem?_eq_getElem (by omega))]
  decide
theorem firstL_none {s : Nat} {l : List FrL} (hno : ∀ (i : Nat) (g : FrL), l[i]? = some g → amongN s g = false) : firstL s l = none := by
  unfold firstL
  rw [List.findIdx?_eq_none_iff]
  intro x hx
  obtain ⟨i, hi, rfl⟩ := List.getElem_of_mem hx
  exact hno i _ (List.getElem?_eq_getElem hi)
set_option maxRecDepth 100000 in
set_option maxHeartbeats 1000000 in
theorem ntfirst_any (base g : Nat) (lim : Int) (v : Value) (l : List FrV) (s : Nat) (hs : s < 256) (w : World) (h : NetAt w base g lim v l) :
    Calls Try.prog 12 #[.pointer (some ⟨g, 0, none⟩), .int .u8 (s : Int)] w fun e w' => e = .returned (firstV (firstL s (l.map (·.1)))) ∧ Below w.heap.size w w' := by
  have HD := hid h
  have HL := h.len
  have HH := hid (fun r w => nthasB_any s r w hs)
  obtain ⟨Av, cv, hv⟩ := own_shapeN h.row
  obtain ⟨n, hn⟩ : ∃ n, l.length = n := ⟨_, rfl⟩
  have HN := hid hn
  rw [hn] at hv HL
  subst hv
  obtain ⟨_, c1⟩ := h.cells
  clear h hn hs
  go_enter Try.func12, Try.ntmps12
  go_wp2_with fail
  go_loopw [13] (fun iv wr => ∃ j : Nat, j ≤ n ∧ iv = .int .i64 j ∧ Hid (Below w.heap.size w wr) ∧ Hid (∀ i g, i < j → (l.map (·.1))[i]? = some g → amongN s g = false)) (fun iv _ => n - (intOf iv).toNat)
  case atStart => exact ⟨0, Nat.zero_le _, rfl, hid (Below.refl _ _), hid (fun i g hi => absurd hi (Nat.not_lt_zero i))⟩
  case round =>
    obtain ⟨j, hj, rfl, HB, HJ⟩ := hrel
    by_cases hlt : j < n
    · have hlt' : (j : Int) < (n : Int) := by omega
      obtain ⟨p, hp⟩ : ∃ p, l[j]? = some p := ⟨_, List.getElem?_eq_getElem (by rw [HN.out]; exact hlt)⟩
      have HP := hid hp
      have HP2 : Hid ((l.map (·.1))[j]? = some p.1) := hid (by rw [List.getElem?_map, hp]; rfl)
      have HX := hid (HD.out.on HB.out)
      obtain ⟨b, hAb⟩ : ∃ b, Av = some ⟨b, 0, none⟩ := by
        obtain ⟨b, cv', hvv, _⟩ := rowN_at HX.out.row hp
        injection hvv with e1
        exact ⟨b, e1⟩
      subst hAb
      obtain ⟨y0, y1, y2⟩ := rowN_cells HX.out.row HP.out
      obtain ⟨Ad, cd, e0⟩ := own_shapeN (HX.out.dat p (List.mem_of_getElem? hp))
      rw [e0] at y2
      obtain ⟨W, hW⟩ : ∃ W, wr.alloc (.cells #[.int .i64 p.1.fr, .int .i64 p.1.to, .slice Ad p.1.d.length cd] 32) = W := ⟨_, rfl⟩
      obtain ⟨K0, KB⟩ := lone_new hW
      have HB2 := hid (below_on HB.out KB.out)
      obtain ⟨f, sl⟩ := p
      have HA : Hid (amongN s f = (hasB s f.fr && hasB s f.to)) := hid rfl
      have HF := hid (firstL_at (s := s) (l := l.map (·.1)) (j := j) (f := f) HP2.out)
      have HNx : Hid (amongN s f = false → ∀ i g, i < j + 1 → (l.map (·.1))[i]? = some g → amongN s g = false) := hid (fun ha i g hi hg => by
        rcases (show i < j ∨ i = j by omega) with h | h
        · exact HJ.out i g h hg
        · subst h; rw [HP2.out] at hg; injection hg with hg; rw [← hg]; exact ha)
      obtain ⟨fr, to, d⟩ := f
      simp only at e0
      have qi : IntKind.i64.wrap ((j : Int) + 1) = ((j + 1 : Nat) : Int) := by rw [IntWalk.i64_in _ (by omega)]; omega
      have H1 := hid (HH.out fr W)
      have H2 := hid (HH.out to W)
      obtain ⟨x, hx⟩ : ∃ x, hasB s fr = x := ⟨_, rfl⟩
      obtain ⟨y, hy⟩ : ∃ y, hasB s to = y := ⟨_, rfl⟩
      have HA2 : Hid (amongN s ⟨fr, to, d⟩ = (x && y)) := hid (by rw [← hx, ← hy]; exact HA.out)
      rw [hx] at H1
      rw [hy] at H2
      clear hp hx hy HA
      go_upto_region 4 with fail
      obtain ⟨k, hk⟩ : ∃ k, wr.heap.size = k := ⟨_, rfl⟩
      rw [hk] at K0 ⊢
      clear hk y0 y1 y2 hW
      obtain ⟨x0, x1, x2⟩ := lcells3N K0.out
      cases x
      · have HN2 := hid (HNx.out (by rw [HA2.out]; rfl))
        clear HNx HF HA2
        go_wp2_with (go_at_call 21; (with_reducible first | refine H1.out.mono ?_ | refine H2.out.mono ?_); rintro e w' ⟨rfl, rfl⟩)
        go_roundw
        case rel => exact ⟨j + 1, by omega, by push_cast; rfl, HB2, HN2⟩
        case measure => simp only [intOf]; omega
      · cases y
        · have HN2 := hid (HNx.out (by rw [HA2.out]; rfl))
          clear HNx HF HA2
          go_wp2_with (go_at_call 21; (with_reducible first | refine H1.out.mono ?_ | refine H2.out.mono ?_); rintro e w' ⟨rfl, rfl⟩)
          go_roundw
          case rel => exact ⟨j + 1, by omega, by push_cast; rfl, HB2, HN2⟩
          case measure => simp only [intOf]; omega
        · have HF2 := hid (HF.out (by rw [HA2.out]; rfl) HJ.out)
          clear HNx HF HA2
          go_wp2_with (go_at_call 21; (with_reducible first | refine H1.out.mono ?_ | refine H2.out.mono ?_); rintro e w' ⟨rfl, rfl⟩)
          refine bodyPost_ret (v := .tuple #[.int .i64 (j : Int), .bool true]) (by simp [results, Try.results12, go_sem]) rfl ⟨by rw [HF2.out]; rfl, HB2.out⟩
    · have hjn : j = n := by omega
      subst hjn
      have HF2 := hid (firstL_none (s := s) (l := l.map (·.1)) (fun i g hg => HJ.out i g (by have h1 := (List.getElem?_eq_some_iff.1 hg).1; rw [List.length_map] at h1; have := HN.out; omega) hg))
      go_wp2
      refine bodyPost_ret (v := .tuple #[.int .i64 0, .bool false]) (by simp [results, Try.results12, go_sem]) rfl ⟨by rw [HF2.out]; rfl, HB.out⟩
end Go.Proofs.Ytljnboimadhkoaa
