/-
  IndexCovers: of two commands that interfere, as instances of unlike replicas, what comes ahead of the one covers the other, whatever was noted before and is noted behind. The table of kinds is listed.
-/
import Derived.Test.YtpdfakjopeldmaaDoorMgF
namespace Go.Proofs.YtpdfakjopeldmaaDoor.indexCovers
open Go.ChangeShapes Go.WideShapes Go.ChangeAt Go.RowKit Go.Maps Go.WideMaps
set_option linter.unusedVariables false
set_option linter.unusedSimpArgs false

/-- What stands throughout. -/
def Cov (w W : World) (g : Nat) (a b : K) (r1 e1 r2 e2 : Int) (A : Option Addr) (os : List OpV) (B : Option Addr) (ms : List OpV) : Prop :=
  Blk W g 27 (cellsOf a) ∧ Blk W (g + 1) 29 #[.int .i64 r1, .int .i64 e1] ∧ Blk W (g + 1 + 1) 27 (cellsOf b) ∧ Blk W (g + 1 + 1 + 1) 29 #[.int .i64 r2, .int .i64 e2] ∧
    Below g w W ∧ SeesO g W A os ∧ SeesO g W B ms ∧ PartsIs W ∧ 1 < g
theorem Cov.lt {w W : World} {g : Nat} {a b : K} {r1 e1 r2 e2 : Int} {A : Option Addr} {os : List OpV} {B : Option Addr} {ms : List OpV} (h : Cov w W g a b r1 e1 r2 e2 A os B ms) : g + 1 + 1 + 1 < W.heap.size := h.2.2.2.1.lt
theorem Cov.grown {w W W' : World} {g : Nat} {a b : K} {r1 e1 r2 e2 : Int} {A : Option Addr} {os : List OpV} {B : Option Addr} {ms : List OpV} (h : Cov w W g a b r1 e1 r2 e2 A os B ms) {row : Option Nat} (hg : W.grownBy W' row) (hr : ∀ k, row = some k → g + 1 + 1 + 1 < k) : Cov w W' g a b r1 e1 r2 e2 A os B ms := by
  obtain ⟨h1, h2, h3, h4, h5, h6, h7, h8, h9⟩ := h
  have hlt := h4.lt
  have ne : ∀ i, i ≤ g + 1 + 1 + 1 → some i ≠ row := fun i hi e => by have := hr i e.symm; omega
  refine ⟨h1.grown hg (ne _ (by omega)), h2.grown hg (ne _ (by omega)), h3.grown hg (ne _ (by omega)), h4.grown hg (ne _ (by omega)), h5.grown hg (by omega) (fun k hk => by have := hr k hk; omega), h6.grown (by omega) hg (fun k hk => by have := hr k hk; omega), h7.grown (by omega) hg (fun k hk => by have := hr k hk; omega), ?_, h9⟩
  exact ix_var_grown (g := 1) (by kernel_rfl) h8 (by omega) (ne _ (by omega)) hg
theorem Cov.on {w W W' : World} {g : Nat} {a b : K} {r1 e1 r2 e2 : Int} {A : Option Addr} {os : List OpV} {B : Option Addr} {ms : List OpV} (h : Cov w W g a b r1 e1 r2 e2 A os B ms) (hb : Below W.heap.size W W') : Cov w W' g a b r1 e1 r2 e2 A os B ms := h.grown (only_of_below hb none) (fun _ h => by cases h)
theorem Cov.drew {w W : World} {g : Nat} {a b : K} {r1 e1 r2 e2 : Int} {A : Option Addr} {os : List OpV} {B : Option Addr} {ms : List OpV} (h : Cov w W g a b r1 e1 r2 e2 A os B ms) : Cov w W.drew g a b r1 e1 r2 e2 A os B ms := h.on (below_drew (Below.refl _ _))
theorem Cov.parts {w W : World} {g : Nat} {a b : K} {r1 e1 r2 e2 : Int} {A : Option Addr} {os : List OpV} {B : Option Addr} {ms : List OpV} (h : Cov w W g a b r1 e1 r2 e2 A os B ms) : PartsIs W := h.2.2.2.2.2.2.2.1
theorem Cov.big {w W : World} {g : Nat} {a b : K} {r1 e1 r2 e2 : Int} {A : Option Addr} {os : List OpV} {B : Option Addr} {ms : List OpV} (h : Cov w W g a b r1 e1 r2 e2 A os B ms) : 1 < W.heap.size := by
  have h1 := h.lt
  have h2 := h.2.2.2.2.2.2.2.2
  omega
theorem cov_start {w W : World} {a b : K} {r1 e1 r2 e2 : Int} {A : Option Addr} {os : List OpV} {B : Option Addr} {ms : List OpV} (h : (((w.alloc (.cells (cellsOf a) 27)).alloc (.cells #[.int .i64 r1, .int .i64 e1] 29)).alloc (.cells (cellsOf b) 27)).alloc (.cells #[.int .i64 r2, .int .i64 e2] 29) = W)
    (hA : SeesO w.heap.size w A os) (hB : SeesO w.heap.size w B ms) (hP : PartsIs w) (hg : 1 < w.heap.size) : Cov w W w.heap.size a b r1 e1 r2 e2 A os B ms := by
  obtain ⟨V, hV⟩ : ∃ V, (w.alloc (.cells (cellsOf a) 27)).alloc (.cells #[.int .i64 r1, .int .i64 e1] 29) = V := ⟨_, rfl⟩
  rw [hV] at h
  have hs : V.heap.size = w.heap.size + 1 + 1 := by rw [← hV]; simp
  obtain ⟨k0, k1, kB⟩ := two_new hV
  obtain ⟨j0, j1, jB⟩ := two_new h
  rw [hs] at j0 j1 jB
  have hb : Below w.heap.size w W := kB.out.trans (jB.out.mono (by omega))
  exact ⟨k0.out.below jB.out (by omega), k1.out.below jB.out (by omega), j0.out, j1.out, hb, hA.below hb, hB.below hb, hP.below hb, hg⟩

set_option maxRecDepth 100000 in
set_option maxHeartbeats 20000000 in
theorem walk (A : Option Addr) (os : List OpV) (ca : Nat) (a : K) (r1 e1 sq : Int) (B : Option Addr) (ms : List OpV) (cb : Nat) (b : K) (r2 e2 : Int) (w : World) (hA : SeesO w.heap.size w A os) (hB : SeesO w.heap.size w B ms)
    (hos : ∀ o ∈ os, Made o) (hms : ∀ o ∈ ms, Made o) (hl1 : os.length ≤ 9223372036854775807) (hl2 : ms.length ≤ 9223372036854775807) (ha : okK a) (hb : okK b) (hP : PartsIs w) (hg : 1 < w.heap.size) :
    Calls Tryd.prog 4 #[.slice A os.length ca, val a, nm r1 e1, .int .i64 sq, .slice B ms.length cb, val b, nm r2 e2] w fun e w' => e = .returned (.bool true) ∧ Below w.heap.size w w' := by
  have HS0 := hid (fun W (h : Cov w W w.heap.size a b r1 e1 r2 e2 A os B ms) => fits_any A os ca 30 W (h.2.2.2.2.2.1.mono (by have := h.lt; omega)) hl1)
  have HS1 := hid (fun W (h : Cov w W w.heap.size a b r1 e1 r2 e2 A os B ms) => fits_any B ms cb 30 W (h.2.2.2.2.2.2.1.mono (by have := h.lt; omega)) hl2)
  have HS2 := hid (fun w => small12 a w)
  have HS3 := hid (fun w => small12 b w)
  have HC := hid (fun (h1 : smallK a = true) (h2 : smallK b = true) w h => clash_any a b w h (by unfold smallK at h1; simp at h1; omega) (by unfold smallK at h1; simp at h1; omega) (by unfold smallK at h2; simp at h2; omega) (by unfold smallK at h2; simp at h2; omega))
  obtain ⟨z0, hz0⟩ : ∃ z, fitsL os 30 = z := ⟨_, rfl⟩
  obtain ⟨z1, hz1⟩ : ∃ z, fitsL ms 30 = z := ⟨_, rfl⟩
  obtain ⟨z2, hz2⟩ : ∃ z, smallK a = z := ⟨_, rfl⟩
  obtain ⟨z3, hz3⟩ : ∃ z, smallK b = z := ⟨_, rfl⟩
  obtain ⟨z4, hz4⟩ : ∃ z, nameB r1 e1 = z := ⟨_, rfl⟩
  obtain ⟨z5, hz5⟩ : ∃ z, nameB r2 e2 = z := ⟨_, rfl⟩
  obtain ⟨z6, hz6⟩ : ∃ z, clashK a b = z := ⟨_, rfl⟩
  rw [hz0] at HS0
  rw [hz1] at HS1
  rw [hz2] at HS2 HC
  rw [hz3] at HS3 HC
  rw [hz6] at HC
  have HZ := hid (And.intro hz0 (And.intro hz1 (And.intro hz2 (And.intro hz3 (And.intro hz4 (And.intro hz5 hz6))))))
  have HM := hid (And.intro hos hms)
  have HK := hid (And.intro ha hb)
  have HA := hid hA
  have HB := hid hB
  have HP := hid hP
  have HG := hid hg
  clear hA hB hos hms hl1 hl2 ha hb hP hg hz0 hz1 hz2 hz3 hz4 hz5 hz6
  obtain ⟨k, u, f, q, s, m', n, t⟩ := a
  obtain ⟨k2, u2, f2, q2, s2, m2, n2, t2⟩ := b
  go_enter Tryd.func4, Tryd.ntmps4
  go_upto_region 1 with fail
  obtain ⟨W, hW⟩ : ∃ W, (((w.alloc (.cells (cellsOf ⟨k, u, f, q, s, m', n, t⟩) 27)).alloc (.cells #[.int .i64 r1, .int .i64 e1] 29)).alloc (.cells (cellsOf ⟨k2, u2, f2, q2, s2, m2, n2, t2⟩) 27)).alloc (.cells #[.int .i64 r2, .int .i64 e2] 29) = W := ⟨_, rfl⟩
  rw [hW]
  have C0 := hid (cov_start hW HA.out HB.out HP.out HG.out)
  clear hW HA HB HP
  obtain ⟨g, hk⟩ : ∃ k, w.heap.size = k := ⟨_, rfl⟩
  rw [hk] at C0 HG HS0 HS1
  rw [hk]
  have HGK := hid hk
  clear hk
  go_wp2_with fail
  with_reducible refine (anchor12 _ C0.out.parts C0.out.big).mono ?_
  rintro e x1 ⟨rfl, hb⟩
  have C1 := hid (C0.out.on hb)
  clear hb C0 
  go_wp2_with fail
  with_reducible refine (HS0.out _ C1.out).mono ?_
  rintro e x2 ⟨rfl, hb⟩
  have C2 := hid (C1.out.on hb)
  clear hb C1 
  cases z0
  · go_wp2
    go_ret
    exact ⟨rfl, by rw [HGK.out]; exact C2.out.2.2.2.2.1⟩
  go_wp2_with fail
  with_reducible refine (HS1.out _ C2.out).mono ?_
  rintro e x3 ⟨rfl, hb⟩
  have C3 := hid (C2.out.on hb)
  clear hb C2 
  cases z1
  · go_wp2
    go_ret
    exact ⟨rfl, by rw [HGK.out]; exact C3.out.2.2.2.2.1⟩
  obtain ⟨⟨c0, c1, c2, c3, c4, c5, c6, c7⟩, _⟩ := cells8 C3.out.1
  go_wp2_with fail
  with_reducible refine (HS2.out _).mono ?_
  rintro e x4 ⟨rfl, hb⟩
  have C4 := hid (C3.out.on hb)
  clear hb C3 c0 c1 c2 c3 c4 c5 c6 c7
  cases z2
  · go_wp2
    go_ret
    exact ⟨rfl, by rw [HGK.out]; exact C4.out.2.2.2.2.1⟩
  obtain ⟨⟨d0, d1, d2, d3, d4, d5, d6, d7⟩, _⟩ := cells8 C4.out.2.2.1
  go_wp2_with fail
  with_reducible refine (HS3.out _).mono ?_
  rintro e x5 ⟨rfl, hb⟩
  have C5 := hid (C4.out.on hb)
  clear hb C4 d0 d1 d2 d3 d4 d5 d6 d7
  cases z3
  · go_wp2
    go_ret
    exact ⟨rfl, by rw [HGK.out]; exact C5.out.2.2.2.2.1⟩
  obtain ⟨⟨i0, i1⟩, _, _⟩ := blkn C5.out.2.1
  go_wp2_with fail
  with_reducible refine (nright_any r1 e1 _).mono ?_
  rw [HZ.out.2.2.2.2.1]
  rintro e x6 ⟨rfl, hb⟩
  have C6 := hid (C5.out.on hb)
  clear hb C5 i0 i1
  cases z4
  · go_wp2
    go_ret
    exact ⟨rfl, by rw [HGK.out]; exact C6.out.2.2.2.2.1⟩
  obtain ⟨⟨j0, j1⟩, _, _⟩ := blkn C6.out.2.2.2.1
  go_wp2_with fail
  with_reducible refine (nright_any r2 e2 _).mono ?_
  rw [HZ.out.2.2.2.2.2.1]
  rintro e x7 ⟨rfl, hb⟩
  have C7 := hid (C6.out.on hb)
  clear hb C6 j0 j1
  cases z5
  · go_wp2
    go_ret
    exact ⟨rfl, by rw [HGK.out]; exact C7.out.2.2.2.2.1⟩
  rcases (show r1 = r2 ∨ r1 ≠ r2 by omega) with h7 | h7
  · subst h7
    obtain ⟨⟨i0, i1⟩, _, _⟩ := blkn C7.out.2.1
    obtain ⟨⟨j0, j1⟩, _, _⟩ := blkn C7.out.2.2.2.1
    go_wp2
    go_ret
    exact ⟨rfl, by rw [HGK.out]; exact C7.out.2.2.2.2.1⟩
  have h7b : (r1 == r2) = false := by simpa using h7
  rcases (show sq < 0 ∨ ¬ sq < 0 by omega) with h8 | h8
  · obtain ⟨⟨i0, i1⟩, _, _⟩ := blkn C7.out.2.1
    obtain ⟨⟨j0, j1⟩, _, _⟩ := blkn C7.out.2.2.2.1
    go_wp2
    go_ret
    exact ⟨rfl, by rw [HGK.out]; exact C7.out.2.2.2.2.1⟩
  rcases (show 1073741824 ≤ sq ∨ ¬ 1073741824 ≤ sq by omega) with h9 | h9
  · obtain ⟨⟨i0, i1⟩, _, _⟩ := blkn C7.out.2.1
    obtain ⟨⟨j0, j1⟩, _, _⟩ := blkn C7.out.2.2.2.1
    go_wp2
    go_ret
    exact ⟨rfl, by rw [HGK.out]; exact C7.out.2.2.2.2.1⟩
  have H7 := hid h7
  have H8 : Hid (0 ≤ sq) := hid (by omega)
  have H9 : Hid (sq < 1073741824) := hid (by omega)
  obtain ⟨⟨c0, c1, c2, c3, c4, c5, c6, c7⟩, _⟩ := cells8 C7.out.1
  obtain ⟨⟨d0, d1, d2, d3, d4, d5, d6, d7⟩, _⟩ := cells8 C7.out.2.2.1
  obtain ⟨⟨i0, i1⟩, _, _⟩ := blkn C7.out.2.1
  obtain ⟨⟨j0, j1⟩, _, _⟩ := blkn C7.out.2.2.2.1
  go_wp2_with fail
  with_reducible refine (HC.out (by trivial) (by trivial) _ C7.out.parts).mono ?_
  rintro e x8 ⟨rfl, hb⟩
  have C8 := hid (C7.out.on hb)
  clear hb C7 c0 c1 c2 c3 c4 c5 c6 c7 d0 d1 d2 d3 d4 d5 d6 d7 i0 i1 j0 j1
  clear h7 h7b h8 h9
  have h8b := H8.out
  have h9b := H9.out
  cases z6
  · go_wp2
    go_ret
    exact ⟨rfl, by rw [HGK.out]; exact C8.out.2.2.2.2.1⟩
  have HSA : Hid (f.size < 200 ∧ s.size < 200) := hid (by have h := HZ.out.2.2.1; unfold smallK at h; simp at h; exact ⟨h.2, h.1⟩)
  have HSB : Hid (f2.size < 200 ∧ s2.size < 200) := hid (by have h := HZ.out.2.2.2.1; unfold smallK at h; simp at h; exact ⟨h.2, h.1⟩)
  have hNew := hid (fun W (h : Cov w W g ⟨k, u, f, q, s, m', n, t⟩ ⟨k2, u2, f2, q2, s2, m2, n2, t2⟩ r1 e1 r2 e2 A os B ms) => ixnew_any W h.big)
  go_wp2_with fail
  with_reducible refine (hNew.out _ C8.out).mono ?_
  rintro e y0 ⟨x, m, rfl, a1, a2, a3⟩
  have X0 := hid a1
  have D0 := hid (C8.out.on a2)
  have hm : Hid (g + 1 + 1 + 1 < m) := hid (by have := C8.out.lt; omega)
  clear h8b h9b a1 a2 a3 C8 hNew HC HS0 HS1 HS2 HS3
  go_wp2_with fail
  have hfit1 : Hid (∀ o ∈ os, fitsO o = true) := hid (fun o ho => by have h := HZ.out.1; unfold fitsL at h; simp only [Bool.and_eq_true] at h; exact List.all_eq_true.1 h.1 o ho)
  have hlen1 : Hid (os.length ≤ 30) := hid (by have h := HZ.out.1; unfold fitsL at h; simp at h; omega)
  go_loopw [76] (fun iv wr => ∃ j : Nat, j ≤ os.length ∧ iv = .int .i64 j ∧ Hid (Ix wr x m (playL [] (os.take j))) ∧ Hid (Cov w wr g ⟨k, u, f, q, s, m', n, t⟩ ⟨k2, u2, f2, q2, s2, m2, n2, t2⟩ r1 e1 r2 e2 A os B ms)) (fun iv _ => os.length - (intOf iv).toNat)
  case atStart => exact ⟨0, Nat.zero_le _, rfl, hid (by rw [List.take_zero]; exact X0.out), D0⟩
  case round =>
    obtain ⟨j, hj, rfl, HX, HD⟩ := hrel
    by_cases hlt : j < os.length
    · obtain ⟨b0, o0, rfl, hb0, hr0⟩ := HD.out.2.2.2.2.2.1 j hlt
      have HR := hid hr0
      obtain ⟨op, hop⟩ : ∃ op, os[j] = op := ⟨_, rfl⟩
      have hmem : op ∈ os := by rw [← hop]; exact List.getElem_mem hlt
      have hlv := hlen1.out
      have HMO := hid (HM.out.1 op hmem)
      have HFO := hid (hfit1.out op hmem)
      have HPL : Hid (playL [] (os.take (j + 1)) = stepL (playL [] (os.take j)) op) := hid (by rw [playL_take _ _ _ hlt, hop])
      have HLN : Hid ((playL [] (os.take j)).length < 1000) := hid (by have h1 := playL_len [] (os.take j); have h2 := hlen1.out; have h3 : ([] : List Nt).length ≤ 0 := Nat.le_refl 0; rw [List.length_take] at h1; omega)
      rw [hop] at HR
      have HL := hid (len_opC op)
      have hs1 := opC_size op
      have hst := op_store op wr
      obtain ⟨cs, hcs⟩ : ∃ cs, (opC op).toList = cs := ⟨_, rfl⟩
      have HCS := hid hcs
      rw [hcs] at HR HL
      clear hcs hr0 hmem hop
      go_upto_region 9 with (first
        | (with_reducible refine wpList_load_mid (op := ⟨some 79, _, _, _, _, _⟩) rfl 44 (.tmp 78) rfl b0 (o0 + j * 22) rfl cs _ HR.out Tryd.underlying44 rfl HL.out ?_; rw [← HCS.out, opC_list]))
      obtain ⟨W1, hW1⟩ : ∃ W1, (wr.alloc (.cells #[.int .i64 0, .int .i64 0, .int .u64 0, .string ⟨#[]⟩, .int .u64 0, .string ⟨#[]⟩, .int .i64 0, .int .u64 0, .int .i64 0, .int .i64 0, .int .i64 0, .int .i64 0, .string ⟨#[]⟩, .int .u64 0, .int .i64 0, .int .i64 0, .int .i64 0, .int .i64 0, .int .i64 0, .int .i64 0, .int .i64 0, .int .i64 0] 44)).setRow wr.heap.size (opC op) = W1 := ⟨_, rfl⟩
      rw [hW1]
      obtain ⟨K0, KB⟩ := op_box hW1
      have E0 := hid (HD.out.on KB.out)
      have Y0 := hid (HX.out.on KB.out)
      clear hW1 hst hs1 HR KB HX HD
      obtain ⟨p, hp⟩ : ∃ p, wr.heap.size = p := ⟨_, rfl⟩
      rw [hp] at K0
      rw [hp]
      clear hp
      have HA2 := hid (len_opA op)
      have HSt := hid (fun W (h : Ix W x m (playL [] (os.take j))) hP => step_any x m (playL [] (os.take j)) [] (.slice none 0 0) op W h (DocV.nil W) hP HMO.out HFO.out HLN.out (by simp))
      go_wp2_with (first
        | (with_reducible refine wpList_load_row (o := ⟨some 81, _, _, _, _, _⟩) rfl 44 (.tmp 17) rfl p rfl 44 (opC op) (0, 0) _ K0.out.heap Tryd.underlying44 rfl HA2.out ?_))
      with_reducible refine (HSt.out _ Y0.out E0.out.parts).mono ?_
      rintro e w2 ⟨v2, rfl, a1, a2, a3⟩
      have Y1 : Hid (Ix w2 x m (playL [] (os.take (j + 1)))) := hid (by rw [HPL.out]; exact a1)
      have E1 := hid (E0.out.grown a3 (fun i hi => by cases hi; exact hm.out))
      clear a1 a2 a3 HSt K0 E0 Y0 HA2
      go_wp2
      go_roundw
      case rel => exact ⟨j + 1, by omega, by go_num, Y1, E1⟩
      case measure => simp only [intOf]; omega
    · have hj2 : j = os.length := by omega
      subst hj2
      rw [List.take_length] at HX
      have D1 := HD
      have X1 := HX
      clear HX HD D0 X0 hlt hj
      have HN := hid (fun W (h : Ix W x m (playL [] os)) hP => ixnote_any x m (playL [] os) ⟨k, u, f, q, s, m', n, t⟩ r1 e1 sq W h hP HSA.out.1 HSA.out.2 HK.out.1.1 (by have h1 := playL_len [] os; have h2 := hlen1.out; simp at h1; omega))
      obtain ⟨L1, hL1⟩ : ∃ L1, noteL (playL [] os) ⟨k, u, f, q, s, m', n, t⟩ r1 e1 sq = L1 := ⟨_, rfl⟩
      have HL1 := hid hL1
      have HL1N : Hid (L1.length ≤ 31) := hid (by
        have h1 := playL_len [] os
        have h2 := hlen1.out
        rw [← hL1]
        unfold noteL
        split <;> simp at * <;> omega)
      rw [hL1] at HN
      clear hL1
      obtain ⟨⟨c0, c1, c2, c3, c4, c5, c6, c7⟩, _⟩ := cells8 D1.out.1
      obtain ⟨⟨i0, i1⟩, _, _⟩ := blkn D1.out.2.1
      go_wp2_with fail
      with_reducible refine (HN.out _ X1.out D1.out.parts).mono ?_
      rintro e y2 ⟨rfl, a1, a2⟩
      have X2 := hid a1
      have D2 := hid (D1.out.grown a2 (fun i hi => by cases hi; exact hm.out))
      clear a1 a2 HN X1 D1 c0 c1 c2 c3 c4 c5 c6 c7 i0 i1
      have HQ := hid (fun W (h : Ix W x m L1) hP => ixask_any x m L1 ⟨k2, u2, f2, q2, s2, m2, n2, t2⟩ r2 e2 W h hP HSB.out.1 HSB.out.2)
      obtain ⟨F1, hF1⟩ : ∃ F, askF L1 ⟨k2, u2, f2, q2, s2, m2, n2, t2⟩ r2 e2 = F := ⟨_, rfl⟩
      have HF1 := hid hF1
      rw [hF1] at HQ
      clear hF1
      obtain ⟨⟨d0, d1, d2, d3, d4, d5, d6, d7⟩, _⟩ := cells8 D2.out.2.2.1
      obtain ⟨⟨j0, j1⟩, _, _⟩ := blkn D2.out.2.2.2.1
      go_wp2_with fail
      with_reducible refine (HQ.out _ X2.out D2.out.parts).mono ?_
      rintro e y3 ⟨rfl, hb⟩
      have X30 := hid (X2.out.on hb)
      have D30 := hid (D2.out.on hb)
      clear hb HQ X2 D2 d0 d1 d2 d3 d4 d5 d6 d7 j0 j1
      have hst := eight_store F1 y3
      have hs8 := rowA_size F1
      go_upto_region 13 with fail
      obtain ⟨W3, hW3⟩ : ∃ W3, (y3.alloc (.cells #[.int .i64 0, .int .i64 0, .int .i64 0, .int .i64 0, .int .i64 0, .int .i64 0, .int .i64 0, .int .i64 0] 40)).setRow y3.heap.size (rowA F1) = W3 := ⟨_, rfl⟩
      rw [hW3]
      obtain ⟨JF1, KB⟩ := eight_box hW3
      have X3 := hid (X30.out.on KB.out)
      have D3 := hid (D30.out.on KB.out)
      clear hW3 hst hs8 KB X30 D30
      obtain ⟨pF1, hp⟩ : ∃ p, y3.heap.size = p := ⟨_, rfl⟩
      rw [hp] at JF1
      rw [hp]
      clear hp
      have hfp : Hid (pF1 ≠ m) := hid (by
        intro e
        obtain ⟨_, ⟨D, ⟨es, clock, hb, _⟩, _⟩, _⟩ := X3.out
        have h := JF1.out
        unfold Blk at h
        rw [e, hb] at h
        cases h)
      go_wp2_with fail
      have hfit2 : Hid (∀ o ∈ ms, fitsO o = true) := hid (fun o ho => by have h := HZ.out.2.1; unfold fitsL at h; simp only [Bool.and_eq_true] at h; exact List.all_eq_true.1 h.1 o ho)
      have hlen2 : Hid (ms.length ≤ 30) := hid (by have h := HZ.out.2.1; unfold fitsL at h; simp at h; omega)
      go_loopw [95] (fun iv wr => ∃ j : Nat, j ≤ ms.length ∧ iv = .int .i64 j ∧ Hid (Ix wr x m (playL L1 (ms.take j))) ∧ Hid (Cov w wr g ⟨k, u, f, q, s, m', n, t⟩ ⟨k2, u2, f2, q2, s2, m2, n2, t2⟩ r1 e1 r2 e2 A os B ms) ∧ Hid (Blk wr pF1 40 (rowA F1))) (fun iv _ => ms.length - (intOf iv).toNat)
      case atStart => exact ⟨0, Nat.zero_le _, rfl, hid (by rw [List.take_zero]; exact X3.out), D3, JF1⟩
      case round =>
        obtain ⟨j, hj, rfl, HX, HD, HJ⟩ := hrel
        by_cases hlt : j < ms.length
        · obtain ⟨b0, o0, rfl, hb0, hr0⟩ := HD.out.2.2.2.2.2.2.1 j hlt
          have HR := hid hr0
          obtain ⟨op, hop⟩ : ∃ op, ms[j] = op := ⟨_, rfl⟩
          have hmem : op ∈ ms := by rw [← hop]; exact List.getElem_mem hlt
          have hlv := hlen2.out
          have HMO := hid (HM.out.2 op hmem)
          have HFO := hid (hfit2.out op hmem)
          have HPL : Hid (playL L1 (ms.take (j + 1)) = stepL (playL L1 (ms.take j)) op) := hid (by rw [playL_take _ _ _ hlt, hop])
          have HLN : Hid ((playL L1 (ms.take j)).length < 1000) := hid (by have h1 := playL_len L1 (ms.take j); have h2 := hlen2.out; have h3 : L1.length ≤ 31 := HL1N.out; rw [List.length_take] at h1; omega)
          rw [hop] at HR
          have HL := hid (len_opC op)
          have hs1 := opC_size op
          have hst := op_store op wr
          obtain ⟨cs, hcs⟩ : ∃ cs, (opC op).toList = cs := ⟨_, rfl⟩
          have HCS := hid hcs
          rw [hcs] at HR HL
          clear hcs hr0 hmem hop
          go_upto_region 16 with (first
            | (with_reducible refine wpList_load_mid (op := ⟨some 98, _, _, _, _, _⟩) rfl 44 (.tmp 97) rfl b0 (o0 + j * 22) rfl cs _ HR.out Tryd.underlying44 rfl HL.out ?_; rw [← HCS.out, opC_list]))
          obtain ⟨W1, hW1⟩ : ∃ W1, (wr.alloc (.cells #[.int .i64 0, .int .i64 0, .int .u64 0, .string ⟨#[]⟩, .int .u64 0, .string ⟨#[]⟩, .int .i64 0, .int .u64 0, .int .i64 0, .int .i64 0, .int .i64 0, .int .i64 0, .string ⟨#[]⟩, .int .u64 0, .int .i64 0, .int .i64 0, .int .i64 0, .int .i64 0, .int .i64 0, .int .i64 0, .int .i64 0, .int .i64 0] 44)).setRow wr.heap.size (opC op) = W1 := ⟨_, rfl⟩
          rw [hW1]
          obtain ⟨K0, KB⟩ := op_box hW1
          have E0 := hid (HD.out.on KB.out)
          have Y0 := hid (HX.out.on KB.out)
          have G0 := hid (HJ.out.below KB.out HJ.out.lt)
          clear hW1 hst hs1 HR KB HX HD HJ
          obtain ⟨p, hp⟩ : ∃ p, wr.heap.size = p := ⟨_, rfl⟩
          rw [hp] at K0
          rw [hp]
          clear hp
          have HA2 := hid (len_opA op)
          have HSt := hid (fun W (h : Ix W x m (playL L1 (ms.take j))) hP => step_any x m (playL L1 (ms.take j)) [] (.slice none 0 0) op W h (DocV.nil W) hP HMO.out HFO.out HLN.out (by simp))
          go_wp2_with (first
            | (with_reducible refine wpList_load_row (o := ⟨some 100, _, _, _, _, _⟩) rfl 44 (.tmp 20) rfl p rfl 44 (opC op) (0, 0) _ K0.out.heap Tryd.underlying44 rfl HA2.out ?_))
          with_reducible refine (HSt.out _ Y0.out E0.out.parts).mono ?_
          rintro e w2 ⟨v2, rfl, a1, a2, a3⟩
          have Y1 : Hid (Ix w2 x m (playL L1 (ms.take (j + 1)))) := hid (by rw [HPL.out]; exact a1)
          have E1 := hid (E0.out.grown a3 (fun i hi => by cases hi; exact hm.out))
          have G1 := hid (G0.out.grown a3 (by simpa using hfp.out))
          clear a1 a2 a3 G0 HSt K0 E0 Y0 HA2
          go_wp2
          go_roundw
          case rel => exact ⟨j + 1, by omega, by go_num, Y1, E1, G1⟩
          case measure => simp only [intOf]; omega
        · have hj2 : j = ms.length := by omega
          subst hj2
          rw [List.take_length] at HX
          have D4 := HD
          have X4 := HX
          have J1 := HJ
          clear HX HD HJ D3 X3 JF1 hlt hj
          obtain ⟨L2, hL2⟩ : ∃ L2, playL L1 ms = L2 := ⟨_, rfl⟩
          have HL2 := hid hL2
          rw [hL2] at X4
          clear hL2
          have HQ := hid (fun W (h : Ix W x m L2) hP => ixask_any x m L2 ⟨k2, u2, f2, q2, s2, m2, n2, t2⟩ r2 e2 W h hP HSB.out.1 HSB.out.2)
          obtain ⟨F2, hF2⟩ : ∃ F, askF L2 ⟨k2, u2, f2, q2, s2, m2, n2, t2⟩ r2 e2 = F := ⟨_, rfl⟩
          have HF2 := hid hF2
          rw [hF2] at HQ
          clear hF2
          obtain ⟨⟨d0, d1, d2, d3, d4, d5, d6, d7⟩, _⟩ := cells8 D4.out.2.2.1
          obtain ⟨⟨j0, j1⟩, _, _⟩ := blkn D4.out.2.2.2.1
          go_wp2_with fail
          with_reducible refine (HQ.out _ X4.out D4.out.parts).mono ?_
          rintro e y3 ⟨rfl, hb⟩
          have X50 := hid (X4.out.on hb)
          have J2 := hid (J1.out.below hb J1.out.lt)
          have D50 := hid (D4.out.on hb)
          clear hb HQ X4 D4 d0 d1 d2 d3 d4 d5 d6 d7 j0 j1
          have hst := eight_store F2 y3
          have hs8 := rowA_size F2
          go_upto_region 19 with fail
          obtain ⟨W3, hW3⟩ : ∃ W3, (y3.alloc (.cells #[.int .i64 0, .int .i64 0, .int .i64 0, .int .i64 0, .int .i64 0, .int .i64 0, .int .i64 0, .int .i64 0] 40)).setRow y3.heap.size (rowA F2) = W3 := ⟨_, rfl⟩
          rw [hW3]
          obtain ⟨JF2, KB⟩ := eight_box hW3
          have X5 := hid (X50.out.on KB.out)
          have J3 := hid (J2.out.below KB.out J2.out.lt)
          have D5 := hid (D50.out.on KB.out)
          clear hW3 hst hs8 KB X50 D50
          obtain ⟨pF2, hp⟩ : ∃ p, y3.heap.size = p := ⟨_, rfl⟩
          rw [hp] at JF2
          rw [hp]
          clear hp
          have hcov := ask_covers (l := playL [] os) HZ.out.2.2.2.2.1 HZ.out.2.2.2.2.2.1 H7.out H8.out H9.out HZ.out.2.2.2.2.2.2
          rw [HL1.out, HF1.out] at hcov
          have hin : inB F1 F2 = true := by
            rw [← HF1.out, ← HF2.out]
            exact askF_mono (fun n hn => by rw [← HL2.out]; exact playL_sub L1 ms n hn) _ _ _
          have hown : ownB F2 r2 e2 = true := by rw [← HF2.out]; exact askF_owns X5.out.2.2.1 _ _ _ HZ.out.2.2.2.2.2.1
          have Q1 := hid (fun w => covers8 F1 r1 e1 w)
          have Q2 := hid (fun w => within8 F1 F2 w)
          have Q3 := hid (fun w => owns8 F2 r2 e2 w)
          rw [hcov.1] at Q1
          rw [hin] at Q2
          rw [hown] at Q3
          have hgt : decide (sq < F1 0) = true := by simpa using hcov.2
          clear hin hown hcov
          obtain ⟨o0, o1, o2, o3, o4, o5, o6, o7⟩ := eight_ex' J3.out.eight
          obtain ⟨v0, v1, v2, v3, v4, v5, v6, v7⟩ := eight_ex' JF2.out.eight
          obtain ⟨⟨i0, i1⟩, _, _⟩ := blkn D5.out.2.1
          obtain ⟨⟨j0, j1⟩, _, _⟩ := blkn D5.out.2.2.2.1
          go_wp2_with fail
          with_reducible refine (Q1.out _).mono ?_
          rintro e w5 ⟨rfl, hb⟩
          have U0 := hid (J3.out.below hb J3.out.lt)
          have U1 := hid (JF2.out.below hb JF2.out.lt)
          have U2 := hid (D5.out.on hb)
          clear hb J3 JF2 D5 o0 o1 o2 o3 o4 o5 o6 o7 v0 v1 v2 v3 v4 v5 v6 v7 i0 i1 j0 j1
          obtain ⟨o0, o1, o2, o3, o4, o5, o6, o7⟩ := eight_ex' U0.out.eight
          obtain ⟨v0, v1, v2, v3, v4, v5, v6, v7⟩ := eight_ex' U1.out.eight
          go_wp2_with fail
          with_reducible refine (Q2.out _).mono ?_
          rintro e w6 ⟨rfl, hb⟩
          have U3 := hid (U1.out.below hb U1.out.lt)
          have U4 := hid (U2.out.on hb)
          clear hb U0 U1 U2 o0 o1 o2 o3 o4 o5 o6 o7 v0 v1 v2 v3 v4 v5 v6 v7
          obtain ⟨v0, v1, v2, v3, v4, v5, v6, v7⟩ := eight_ex' U3.out.eight
          obtain ⟨⟨j0, j1⟩, _, _⟩ := blkn U4.out.2.2.2.1
          go_wp2_with fail
          with_reducible refine (Q3.out _).mono ?_
          rintro e w7 ⟨rfl, hb⟩
          have U5 := hid (U4.out.on hb)
          clear hb U3 U4 v0 v1 v2 v3 v4 v5 v6 v7 j0 j1
          go_wp2
          go_ret
          exact ⟨rfl, by rw [HGK.out]; exact U5.out.2.2.2.2.1⟩

theorem walk2 (A : Option Addr) (os : List OpV) (ca : Nat) (a : K) (r1 e1 sq : Int) (B : Option Addr) (ms : List OpV) (cb : Nat) (b : K) (r2 e2 : Int)
    (hos : ∀ o ∈ os, Made o) (hl1 : os.length ≤ 9223372036854775807) (ha : okK a) (hsq : (Lit.int .i64 sq).wf = true) (hms : ∀ o ∈ ms, Made o) (hl2 : ms.length ≤ 9223372036854775807) (hb : okK b) (w : World) (hA : SeesO w.heap.size w A os) (hB : SeesO w.heap.size w B ms) (hP : PartsIs w) :
    Calls Tryd.prog 4 #[.slice A os.length ca, val a, nm r1 e1, .int .i64 sq, .slice B ms.length cb, val b, nm r2 e2] w fun e w' => e = .returned (.bool true) ∧ Below w.heap.size w w' :=
  walk A os ca a r1 e1 sq B ms cb b r2 e2 w hA hB hos hms hl1 hl2 ha hb hP (parts_lt hP)

end Go.Proofs.YtpdfakjopeldmaaDoor.indexCovers
