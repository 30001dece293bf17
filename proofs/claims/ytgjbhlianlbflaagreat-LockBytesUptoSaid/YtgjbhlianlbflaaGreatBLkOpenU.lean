/-
  A list of the law's steps among the arguments, its bulk being bounded.
-/
import Derived.Test.YtgjbhlianlbflaaGreatBLkOpen
import Derived.Test.YtgjbhlianlbflaaGreatRows
namespace Go.Proofs.YtgjbhlianlbflaaGreat
open Go.ChangeShapes Go.WideShapes Go.ChangeAt Go.RowKit Go.Deep
set_option linter.unusedVariables false
set_option linter.unusedSimpArgs false
theorem bulk_mem {H : Type} : ∀ {l : List (DataW H)} {d : DataW H}, d ∈ l → Rows.uptoBulk d ≤ Rows.uptoBulkAll l
  | x :: l, d, hd => by
    simp only [Rows.uptoBulkAll]
    rcases List.mem_cons.1 hd with rfl | h
    · omega
    · have := bulk_mem h
      omega
set_option maxRecDepth 100000 in
set_option maxHeartbeats 2000000 in
theorem open_op5u {H : Type} {enc : TypeId × Value → H} {w : World} {base : Nat} {held : Bool} {d : DataW H} {p : List MemPlace} {fuel : Nat} {cs : List Value} (hlen : cs.length = 5)
    (hf : DataW.trod enc Tryz.prog w base (fun _ => true) held fuel 35 cs = some (d, p)) : ∃ o : OpK, cs = (opK o).toList ∧ IsUk o.u ∧ o.foot.size ≤ Rows.uptoBulk d := by
  obtain ⟨a0, a1, a2, a3, a4, rfl⟩ := list5 hlen
  obtain ⟨xs, n, _, hp, _, hl, hfs⟩ := DataW.trod_struct Tryz.underlying35 hf
  have c1 : Tryz.prog.cellsOf 3 = 1 := by kernel_rfl
  have c2 : Tryz.prog.cellsOf 9 = 1 := by kernel_rfl
  have c3 : Tryz.prog.cellsOf 33 = 2 := by kernel_rfl
  have c4 : Tryz.prog.cellsOf 22 = 1 := by kernel_rfl
  have e0 := hfs 0 _ rfl
  have e1 := hfs 1 _ rfl
  have e2 := hfs 2 _ rfl
  have e3 := hfs 3 _ rfl
  simp [c1, c2, c3] at e0 e1 e2 e3
  have hx : xs.length = 4 := hl
  match xs, hx with
  | [y0, y1, y2, y3], _ =>
    simp at e0 e1 e2 e3
    obtain ⟨kd, hkd, h0, wk⟩ := DataW.trod_int Tryz.underlying3 e0
    obtain ⟨mo, hmo, h1, wm⟩ := DataW.trod_int Tryz.underlying3 e1
    obtain ⟨pa, hpa, h2, wp⟩ := DataW.trod_string Tryz.underlying9 e2
    obtain ⟨xs2, n2, _, hp2, _, hl2, hfs2⟩ := DataW.trod_struct Tryz.underlying33 e3
    have f0 := hfs2 0 _ rfl
    have f1 := hfs2 1 _ rfl
    simp [c4, c2] at f0 f1
    have hx2 : xs2.length = 2 := hl2
    match xs2, hx2 with
    | [z0, z1], _ =>
      simp at f0 f1
      obtain ⟨u, hu, g0, wu⟩ := DataW.trod_int Tryz.underlying22 f0
      obtain ⟨fo, hfo, g1, wf⟩ := DataW.trod_string Tryz.underlying9 f1
      simp only [List.cons.injEq, and_true] at hkd hmo hpa hu hfo
      subst hkd hmo hpa hu hfo
      refine ⟨⟨kd, mo, pa, u, fo⟩, rfl, lkisu wu, ?_⟩
      simp only [Prod.mk.injEq] at hp
      rw [hp.1]
      subst h0 h1 h2 hp2 g0 g1
      have e1 : fo.data.toList.length = fo.size := by rw [Array.length_toList]; rfl
      simp only [List.map_cons, List.map_nil, Rows.uptoBulk, Rows.uptoBulkAll]
      omega
set_option maxRecDepth 100000 in
theorem open_ops17u {H : Type} {enc : TypeId × Value → H} {W : World} {base : Nat} {v : Value} {d : DataW H} {p : List MemPlace} (hval : Value.okWide Tryz.prog W .any base 23 v) (hd : DataW.Trod enc Tryz.prog W 0 (fun _ => true) true 23 v d p) (hlt : ∀ x ∈ p, x.block < W.heap.size)
    (hsz : Rows.uptoBulk d ≤ 1048576) :
    ∃ A cap, ∃ l : List OpK, v = .slice A l.length cap ∧ SeesOp W A l ∧ (∀ o ∈ l, MadeK o ∧ o.foot.size ≤ 1048576) ∧ l.length ≤ 9223372036854775807 := by
  have hC : Tryz.prog.cellsOf 35 = 5 := by kernel_rfl
  obtain ⟨a0, len, cap, rfl⟩ := okWide_slice Tryz.underlying23 hval
  obtain ⟨fuel, hf⟩ := hd
  rcases open_slice Tryz.underlying23 hf with ⟨hcs, _⟩ | ⟨a, len', cap', m, n', D, Pl, hcs, _, hl, hcm, hm, hx, hall⟩
  · simp [Value.cells] at hcs
    obtain ⟨rfl, rfl, rfl⟩ := hcs
    exact ⟨none, 0, [], rfl, fun j y h => absurd h (by simp), fun c h => absurd h (by simp), Nat.zero_le _⟩
  · simp [Value.cells] at hcs
    obtain ⟨rfl, rfl, rfl⟩ := hcs
    simp only [if_true] at hm
    subst hm
    rw [hC] at hall hx
    simp only [Prod.mk.injEq] at hx
    obtain ⟨F, hF⟩ := pick_allK (⟨0, 0, ⟨#[]⟩, 0, ⟨#[]⟩⟩ : OpK) (m := m) (p := fun i (o : OpK) => (IsUk o.u ∧ (i < len → o.foot.size ≤ 1048576)) ∧ W.cells? 0 (a.add (i * 5)) 5 = some (opK o).toList)
      (fun i hi => by
        obtain ⟨cs', hc, ht⟩ := hall i hi
        obtain ⟨_, hlen, _⟩ := World.cells?_some hc
        obtain ⟨o, rfl, hok, hwt⟩ := open_op5u (d := D i) (p := Pl i) hlen ht
        refine ⟨o, ⟨hok, fun hil => ?_⟩, hc⟩
        have h1 := hsz
        rw [hx.1] at h1
        simp only [Rows.uptoBulk] at h1
        have h2 := bulk_mem (List.mem_map.2 ⟨i, List.mem_range.2 hil, rfl⟩ : D i ∈ (List.range len).map D)
        omega)
    refine ⟨some a, m, (List.range len).map F, by simp, ?_, ?_, ?_⟩
    · intro j y hj
      have hjl : j < len := by simpa using (List.getElem?_eq_some_iff.1 hj).1
      obtain ⟨_, hc⟩ := hF j (by omega)
      obtain ⟨_, hlen, hat⟩ := World.cells?_some hc
      have he : y = F j := by
        rw [List.getElem?_map, List.getElem?_range hjl] at hj
        simpa using hj.symm
      subst he
      obtain ⟨b, off, spot⟩ := a
      have hspot : spot = none := by
        obtain ⟨_, hc0⟩ := hF 0 (by omega)
        obtain ⟨_, _, hat0⟩ := World.cells?_some hc0
        simpa [Addr.add] using World.cell?_spot (hat0 0 (by omega))
      subst hspot
      have hb : b < W.heap.size := hlt (.cell b off) (by rw [hx.2]; exact List.mem_append_left _ (MemPlace.mem_row.2 ⟨0, by omega, by simp⟩))
      refine ⟨b, off, rfl, hb, fun i u hu => ?_⟩
      have hi : i < 5 := (List.getElem?_eq_some_iff.1 hu).1
      have h2 := hat i (by omega)
      simp only [add_plain] at h2
      rw [h2]
      exact hu
    · intro c hc
      obtain ⟨i, hi, rfl⟩ := List.mem_map.1 hc
      have hil := List.mem_range.1 hi
      exact ⟨⟨(hF i (by omega)).1.1, by have := (hF i (by omega)).1.2 hil; unfold OkK; omega⟩, (hF i (by omega)).1.2 hil⟩
    · simp
      unfold maxLen at hcm
      omega
end Go.Proofs.YtgjbhlianlbflaaGreat
