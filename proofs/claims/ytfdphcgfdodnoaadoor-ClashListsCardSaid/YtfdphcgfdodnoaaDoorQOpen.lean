/-
  A slice of commands, and a slice of truths, among a law's arguments.
-/
import Derived.Test.YtfdphcgfdodnoaaDoorKOpen
import Derived.Test.YtfdphcgfdodnoaaDoorQClosed
import Derived.Deep.Grids
import Derived.ChangeSame
namespace Go.Proofs.YtfdphcgfdodnoaaDoor
open Go.ChangeShapes Go.WideShapes Go.ChangeAt Go.RowKit Go.Deep
set_option linter.unusedVariables false

theorem eight_of {α : Type} {l : List α} (h : l.length = 8) : ∃ a b c d e f g i, l = [a, b, c, d, e, f, g, i] := by
  match l, h with
  | [a, b, c, d, e, f, g, i], _ => exact ⟨a, b, c, d, e, f, g, i, rfl⟩

set_option maxRecDepth 100000 in
/-- One command's cells. -/
theorem open_cells {H : Type} {enc : TypeId × Value → H} {w : World} {base fuel : Nat} {spare : Nat → Bool} {held : Bool} {cs : List Value} {d : DataW H} {p : List MemPlace} (hlen : cs.length = 8)
    (hf : DataW.trod enc Tryd.prog w base spare held fuel 26 cs = some (d, p)) :
    ∃ c : K, cs = [.int .i64 c.kind, .int .u64 c.num, .string c.foot, .int .u64 c.req, .string c.path, .int .i64 c.mode, .int .u64 c.n, .int .i64 c.time] ∧ okK c := by
  obtain ⟨a0, a1, a2, a3, a4, a5, a6, a7, rfl⟩ := eight_of hlen
  obtain ⟨xs, n, _, _, _, hl, hfs⟩ := DataW.trod_struct Tryd.underlying26 hf
  have c1 : Tryd.prog.cellsOf 3 = 1 := by kernel_rfl
  have c2 : Tryd.prog.cellsOf 22 = 1 := by kernel_rfl
  have c3 : Tryd.prog.cellsOf 9 = 1 := by kernel_rfl
  have c4 : Tryd.prog.cellsOf 24 = 2 := by kernel_rfl
  have e0 := hfs 0 _ rfl
  have e1 := hfs 1 _ rfl
  have e2 := hfs 2 _ rfl
  have e3 := hfs 3 _ rfl
  have e4 := hfs 4 _ rfl
  have e5 := hfs 5 _ rfl
  have e6 := hfs 6 _ rfl
  simp [c1, c2, c3, c4] at e0 e1 e2 e3 e4 e5 e6
  have hx : xs.length = 7 := hl
  have at_ : ∀ i, i < 7 → ∃ y, xs[i]? = some y := fun i hi => ⟨xs[i]'(by omega), List.getElem?_eq_getElem (by omega)⟩
  obtain ⟨y0, z0⟩ := at_ 0 (by omega)
  obtain ⟨y1, z1⟩ := at_ 1 (by omega)
  obtain ⟨y2, z2⟩ := at_ 2 (by omega)
  obtain ⟨y3, z3⟩ := at_ 3 (by omega)
  obtain ⟨y4, z4⟩ := at_ 4 (by omega)
  obtain ⟨y5, z5⟩ := at_ 5 (by omega)
  obtain ⟨y6, z6⟩ := at_ 6 (by omega)
  rw [z0] at e0
  rw [z1] at e1
  rw [z2] at e2
  rw [z3] at e3
  rw [z4] at e4
  rw [z5] at e5
  rw [z6] at e6
  obtain ⟨k, hk, _, wk⟩ := DataW.trod_int Tryd.underlying3 e0
  obtain ⟨q, hq, _, wq⟩ := DataW.trod_int Tryd.underlying22 e2
  obtain ⟨s, hs, _, ws⟩ := DataW.trod_string Tryd.underlying9 e3
  obtain ⟨m, hm, _, wm⟩ := DataW.trod_int Tryd.underlying3 e4
  obtain ⟨nn, hn, _, wn⟩ := DataW.trod_int Tryd.underlying22 e5
  obtain ⟨t, ht, _, wt⟩ := DataW.trod_int Tryd.underlying3 e6
  obtain ⟨xs2, n2, _, _, _, hl2, hfs2⟩ := DataW.trod_struct Tryd.underlying24 e1
  have g0 := hfs2 0 _ rfl
  have g1 := hfs2 1 _ rfl
  simp [c2, c3] at g0 g1
  have hx2 : xs2.length = 2 := hl2
  have x0 : xs2[0]? = some (xs2[0]'(by omega)) := List.getElem?_eq_getElem (by omega)
  have x1 : xs2[1]? = some (xs2[1]'(by omega)) := List.getElem?_eq_getElem (by omega)
  rw [x0] at g0
  rw [x1] at g1
  obtain ⟨u, hu, _, wu⟩ := DataW.trod_int Tryd.underlying22 g0
  obtain ⟨f, hf', _, wf⟩ := DataW.trod_string Tryd.underlying9 g1
  simp only [List.cons.injEq, and_true] at hk hq hs hm hn ht hu hf'
  subst hk hq hs hm hn ht hu hf'
  exact ⟨⟨k, u, f, q, s, m, nn, t⟩, rfl, u64_of wu, u64_of wq, u64_of wn, i64_of wk, i64_of wm, i64_of wt⟩

theorem pick_all8 {α : Type} (d : α) {m : Nat} {p : Nat → α → Prop} (h : ∀ i, i < m → ∃ x, p i x) : ∃ F : Nat → α, ∀ i, i < m → p i (F i) := by
  classical
  exact ⟨fun i => if hi : i < m then Classical.choose (h i hi) else d, fun i hi => by simp only [dif_pos hi]; exact Classical.choose_spec (h i hi)⟩

set_option maxRecDepth 100000 in
/-- A slice of commands among the arguments. -/
theorem open_cmds {H : Type} {enc : TypeId × Value → H} {W : World} {base : Nat} {v : Value} {d : DataW H} {p : List MemPlace} (hval : Value.okWide Tryd.prog W .any base 50 v) (hd : DataW.Trod enc Tryd.prog W 0 (fun _ => true) true 50 v d p) (hlt : ∀ x ∈ p, x.block < W.heap.size) :
    ∃ A cap, ∃ l : List K, v = .slice A l.length cap ∧ SeesK W.heap.size W A l ∧ ∀ c ∈ l, okK c := by
  have hC : Tryd.prog.cellsOf 26 = 8 := by kernel_rfl
  obtain ⟨a0, len, cap, rfl⟩ := okWide_slice Tryd.underlying50 hval
  obtain ⟨fuel, hf⟩ := hd
  rcases open_slice Tryd.underlying50 hf with ⟨hcs, _⟩ | ⟨a, len', cap', m, n', D, Pl, hcs, _, hl, _, hm, hx, hall⟩
  · simp [Value.cells] at hcs
    obtain ⟨rfl, rfl, rfl⟩ := hcs
    exact ⟨none, 0, [], rfl, fun j h => absurd h (by simp), fun c h => nomatch h⟩
  · simp [Value.cells] at hcs
    obtain ⟨rfl, rfl, rfl⟩ := hcs
    simp only [if_true] at hm
    subst hm
    rw [hC] at hall hx
    obtain ⟨F, hF⟩ := pick_all8 (noK) (m := m) (p := fun i (c : K) => okK c ∧ W.cells? 0 (a.add (i * 8)) 8 = some [.int .i64 c.kind, .int .u64 c.num, .string c.foot, .int .u64 c.req, .string c.path, .int .i64 c.mode, .int .u64 c.n, .int .i64 c.time])
      (fun i hi => by
        obtain ⟨cs', hc, ht⟩ := hall i hi
        obtain ⟨_, hlen, _⟩ := World.cells?_some hc
        obtain ⟨c, rfl, hok⟩ := open_cells hlen ht
        exact ⟨c, hok, hc⟩)
    simp only [Prod.mk.injEq] at hx
    refine ⟨some a, m, (List.range len).map F, by simp, ?_, ?_⟩
    · intro j hj
      have hjl : j < len := by simpa using hj
      obtain ⟨_, hc⟩ := hF j (by omega)
      obtain ⟨_, _, hat⟩ := World.cells?_some hc
      have he : ((List.range len).map F)[j] = F j := by simp
      rw [he]
      obtain ⟨b, off, spot⟩ := a
      have q0 := hat 0 (by omega)
      have q1 := hat 1 (by omega)
      have q2 := hat 2 (by omega)
      have q3 := hat 3 (by omega)
      have q4 := hat 4 (by omega)
      have q5 := hat 5 (by omega)
      have q6 := hat 6 (by omega)
      have q7 := hat 7 (by omega)
      have hspot : spot = none := by
        obtain ⟨_, hc0⟩ := hF 0 (by omega)
        obtain ⟨_, _, hat0⟩ := World.cells?_some hc0
        simpa [Addr.add] using World.cell?_spot (hat0 0 (by omega))
      subst hspot
      simp only [add_plain] at q0 q1 q2 q3 q4 q5 q6 q7
      have hb : b < W.heap.size := hlt (.cell b off) (by rw [hx.2]; exact List.mem_append_left _ (MemPlace.mem_row.2 ⟨0, by omega, by simp⟩))
      exact ⟨b, off, rfl, hb, q0, q1, q2, q3, q4, q5, q6, q7⟩
    · intro c hc
      obtain ⟨i, hi, rfl⟩ := List.mem_map.1 hc
      exact (hF i (by have := List.mem_range.1 hi; omega)).1

set_option maxRecDepth 100000 in
/-- A slice of truths among the arguments. -/
theorem open_truths {H : Type} {enc : TypeId × Value → H} {W : World} {base : Nat} {v : Value} {d : DataW H} {p : List MemPlace} (hval : Value.okWide Tryd.prog W .any base 51 v) (hd : DataW.Trod enc Tryd.prog W 0 (fun _ => true) true 51 v d p) (hlt : ∀ x ∈ p, x.block < W.heap.size) :
    ∃ B cap, ∃ bs : List Bool, v = .slice B bs.length cap ∧ SeesB W.heap.size W B bs := by
  obtain ⟨a0, len, cap, rfl⟩ := okWide_slice Tryd.underlying51 hval
  obtain ⟨fuel, hf⟩ := hd
  rcases open_bools Tryd.underlying51 Tryd.underlying4 (by kernel_rfl) hf with ⟨hcs, _⟩ | ⟨a, len', cap', F, hcs, _, hl, hm, hx, hcell⟩
  · simp [Value.cells] at hcs
    obtain ⟨rfl, rfl, rfl⟩ := hcs
    exact ⟨none, 0, [], rfl, fun j h => absurd h (by simp)⟩
  · simp [Value.cells] at hcs
    obtain ⟨rfl, rfl, rfl⟩ := hcs
    simp only [Prod.mk.injEq] at hx
    obtain ⟨_, rfl⟩ := hx
    refine ⟨some a, cap, (List.range len).map F, by simp, ?_⟩
    intro j hj
    have hjl : j < len := by simpa using hj
    have he : ((List.range len).map F)[j] = F j := by simp
    rw [he]
    obtain ⟨b, off, spot⟩ := a
    have hspot : spot = none := by simpa [Addr.add] using World.cell?_spot (hcell 0 (by omega))
    subst hspot
    have hb : b < W.heap.size := hlt (.cell b off) (MemPlace.mem_row.2 ⟨0, by omega, by simp⟩)
    exact ⟨b, off, rfl, hb, by rw [← add_plain]; exact hcell j (by omega)⟩

end Go.Proofs.YtfdphcgfdodnoaaDoor
