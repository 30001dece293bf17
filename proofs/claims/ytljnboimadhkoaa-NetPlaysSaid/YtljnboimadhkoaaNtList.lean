/-
  All frames told, each with bytes of its own (package net: List); the first frame among some (First).
-/
import Derived.Test.YtljnboimadhkoaaNtPut
import Derived.Laws.MakeOwn
namespace Go.Proofs.Ytljnboimadhkoaa
open Go.ChangeShapes Go.WideShapes Go.ChangeAt Go.RowKit
set_option linter.unusedVariables false
set_option linter.unusedSimpArgs false

theorem run_frN (n : Nat) (hn : n ≤ 4096) : ∃ Z : Array Value, (∀ w, (Instr.makeSlice 37 (.int .i64 0) (.int .i64 (n : Int))).run Try.prog w = .ok (.slice (some ⟨w.heap.size, 0, none⟩) 0 n) (w.alloc (.cells Z 32))) ∧ Z.size = n * 3 := by
  obtain ⟨i0, hi, hz0, hz1, hz2⟩ := info_parts info_fr
  refine ⟨madeCells (Value.agg #[.int .i64 0, .int .i64 0, .slice none 0 0]).cells (n * 3), fun w => ?_, by simp [size_madeCells]⟩
  have := run_make (P := Try.prog) w 37 32 i0 (.agg #[.int .i64 0, .int .i64 0, .slice none 0 0]) Try.underlying37 hi hz0 .i64 .i64 (0 : Int) (n : Int) (by omega) (by omega) (by rw [hz2]; omega) (by omega)
  rw [this, hz1, Int.toNat_natCast]
  rfl
/-- Frames told so far. -/
def LtRel (w wr : World) (l : List FrV) (v : Value) (j : Nat) (l1 : List FrV) : Prop := l1.map (·.1) = (l.take j).map (·.1) ∧ wr.ownsRow w.heap.size 32 3 v j (flatN l1) ∧ (∀ p ∈ l1, wr.ownsRow w.heap.size 5 1 p.2 p.1.d.length (numsN p.1.d)) ∧ Below w.heap.size w wr
theorem LtRel.begin {w : World} {Z : Array Value} {n : Nat} {l : List FrV} (hn : n ≤ 4096) (hZ : Z.size = n * 3) : LtRel w (w.alloc (.cells Z 32)) l (.slice (some ⟨w.heap.size, 0, none⟩) 0 n) 0 [] :=
  ⟨by simp, World.ownsRow_made w Z n (Nat.le_refl _) (by unfold maxLen; omega) hZ, fun p hp => by simp at hp, (Below.refl _ _).alloc (Nat.le_refl _) _⟩
theorem LtRel.next {w wr w1 w2 : World} {l : List FrV} {v v' u : Value} {j : Nat} {l1 : List FrV} {p : FrV} {o : Obj} (h : LtRel w wr l v j l1) (hj : l[j]? = some p) (hb : Below wr.heap.size wr w1) (hu : w1.ownsRow wr.heap.size 5 1 u p.1.d.length (numsN p.1.d))
    (h2 : w2.ownsRow w.heap.size 32 3 v' (j + 1) (flatN l1 ++ frC (p.1, u))) (hg : (w1.alloc o).grownBy w2 v.ownBlock) : LtRel w w2 l v' (j + 1) (l1 ++ [(p.1, u)]) := by
  obtain ⟨e1, h1, h3, h4⟩ := h
  have hsz := h4.size
  have r1 : (w1.alloc o).ownsRow w.heap.size 32 3 v j (flatN l1) := (row_turnsN (S := fun _ => False) h1 (TurnsD.of_below hb) (fun _ _ h => h)).alloc o
  have hu1 : (w1.alloc o).ownsRow w.heap.size 5 1 u p.1.d.length (numsN p.1.d) := (own_lowN hu hsz).alloc o
  have keep : ∀ q : FrV, (w1.alloc o).ownsRow w.heap.size 5 1 q.2 q.1.d.length (numsN q.1.d) → w2.ownsRow w.heap.size 5 1 q.2 q.1.d.length (numsN q.1.d) := fun q hq => row_turnsN (S := fun b => v.ownBlock = some b) hq (TurnsD.of_grown hg (fun b hb => hb)) (fun b hb hv => own_ne hq r1 (by decide) hb hv)
  refine ⟨?_, ?_, fun q hq => ?_, ?_⟩
  · have hjl := (List.getElem?_eq_some_iff.1 hj)
    obtain ⟨hj1, hj2⟩ := hjl
    rw [List.map_append, e1, List.take_succ_eq_append_getElem hj1, List.map_append, hj2]
    rfl
  · rw [flatN_app]
    exact h2
  · rcases List.mem_append.1 hq with hq | hq
    · exact keep q ((row_turnsN (S := fun _ => False) (h3 q hq) (TurnsD.of_below hb) (fun _ _ h => h)).alloc o)
    · simp at hq
      subst hq
      exact keep (p.1, u) hu1
  · exact ((h4.trans (hb.mono hsz)).alloc (Nat.le_trans hsz hb.size) o).grown hg (Nat.le_trans (Nat.le_trans hsz hb.size) (by simp)) (fun k hk => (r1.lt k hk).1)
/-- What List tells. -/
def ListN (l : List FrV) (w : World) (e : Ending) (w' : World) : Prop := ∃ v l1, e = .returned v ∧ LtRel w w' l v l.length l1
set_option maxRecDepth 100000 in
set_option maxHeartbeats 1000000 in
theorem ntlist_any (base g : Nat) (lim : Int) (v : Value) (l : List FrV) (w : World) (h : NetAt w base g lim v l) :
    Calls Try.prog 8 #[.pointer (some ⟨g, 0, none⟩)] w (ListN l w) := by
  have HD := hid h
  have HL := h.len
  obtain ⟨Av, cv, hv⟩ := own_shapeN h.row
  obtain ⟨i0, hi, hz0, hz1, hz2⟩ := info_parts info_fr
  have HI := hid (And.intro hi (And.intro hz0 (And.intro hz1 hz2)))
  obtain ⟨n, hn⟩ : ∃ n, l.length = n := ⟨_, rfl⟩
  have HN := hid hn
  rw [hn] at hv HL
  subst hv
  obtain ⟨Z, hmk, hZ⟩ := run_frN n HL
  have HB := hid (LtRel.begin (w := w) (l := l) HL hZ)
  obtain ⟨_, c1⟩ := h.cells
  have c2 : (w.alloc (.cells Z 32)).cell? ⟨g, 1, none⟩ = some (.slice Av n cv) := (h.alloc _).cells.2
  clear h hi hz0 hz1 hz2 hn hZ
  unfold ListN
  rw [HN.out]
  go_enter Try.func8, Try.ntmps8
  go_wp2_with fail
  go_loopw [3, 17] (fun s iv wr => ∃ (j : Nat) (l1 : List FrV), j ≤ n ∧ iv = .int .i64 j ∧ Hid (LtRel w wr l s j l1)) (fun _ iv _ => n - (intOf iv).toNat)
  case atStart => exact ⟨0, [], Nat.zero_le _, rfl, HB⟩
  case round =>
    clear HB
    obtain ⟨j, l1, hj, rfl, HR⟩ := hrel
    by_cases hlt : j < n
    · have hlt' : (j : Int) < (n : Int) := by omega
      obtain ⟨p, hp⟩ : ∃ p, l[j]? = some p := ⟨_, List.getElem?_eq_getElem (by rw [HN.out]; exact hlt)⟩
      have HP := hid hp
      obtain ⟨_, hown, _, hbel⟩ := HR.out
      have HBe := hid hbel
      obtain ⟨As, cs, rfl⟩ := own_shapeN hown
      have HX := hid (HD.out.on hbel)
      obtain ⟨b, hAb⟩ : ∃ b, Av = some ⟨b, 0, none⟩ := by
        obtain ⟨b, cv', hvv, _⟩ := rowN_at HX.out.row hp
        injection hvv with e1
        exact ⟨b, e1⟩
      subst hAb
      obtain ⟨y0, y1, y2⟩ := rowN_cells HX.out.row HP.out
      have hmem := List.mem_of_getElem? hp
      obtain ⟨Ad, cd, e0, hA, hc, hS⟩ := own_slice (HX.out.dat p hmem)
      rw [e0] at y2
      have HSm := hid (HX.out.small p hmem)
      obtain ⟨W, hW⟩ : ∃ W, wr.alloc (.cells #[.int .i64 p.1.fr, .int .i64 p.1.to, .slice Ad p.1.d.length cd] 32) = W := ⟨_, rfl⟩
      obtain ⟨K0, KB⟩ := lone_new hW
      have HCp := hid (copied_any p.1 Ad p.1.d.length cd W rfl (by have := HSm.out; omega) hA (hS.below KB.out))
      have qi : IntKind.i64.wrap ((j : Int) + 1) = ((j + 1 : Nat) : Int) := by rw [IntWalk.i64_in _ (by omega)]; omega
      clear hown hbel hp hmem hA hc hS
      obtain ⟨⟨fr, to, d⟩, s⟩ := p
      simp only at e0
      subst e0
      have HW := hid hW
      go_upto_region 5 with fail
      obtain ⟨k, hk⟩ : ∃ k, wr.heap.size = k := ⟨_, rfl⟩
      rw [hk] at K0 ⊢
      have HK := hid hk
      clear hk y0 y1 y2 hW
      obtain ⟨x0, x1, x2⟩ := lcells3N K0.out
      have R0 := hid HR.out
      go_wp2_with (first
        | (go_at_call 20; (with_reducible refine HCp.out.mono ?_); rintro e w3 ⟨u, rfl, hu, b3⟩; obtain ⟨Au, cu, rfl⟩ := own_shapeN hu; have B3 := hid (below_on KB.out b3); have HU := hid (own_lowN hu KB.out.size); clear hu b3 x0 x1 x2)
        | (at_builtin; refine wpList_append_own_at _ rfl (.tmp 21) (.tmp 24) 37 rfl w.heap.size 32 i0 _ 3 40 Try.underlying37 HI.out.1 HI.out.2.1 HI.out.2.2.1 HI.out.2.2.2 rfl (by decide) (.slice As j cs) j (flatN l1) rfl ((row_turnsN (S := fun _ => False) HR.out.2.1 (TurnsD.of_below B3.out) (fun _ _ h => h)).alloc _) ⟨w3.heap.size, 0, none⟩ 1 1 [.int .i64 fr, .int .i64 to, .slice Au d.length cu] rfl rfl (cells_new3 _ _ _ _ _) (by intro y hy; simp at hy; rcases hy with rfl | rfl | rfl <;> rfl) (by unfold maxLen; omega) (by omega) (by have := HBe.out.size; have := B3.out.size; simp; omega) ?_; intro v5 w5 hown hg _ _; have HO5 := hid hown; have HG5 := hid hg; clear hown hg))
      have HN5 := hid (HR.out.next HP.out B3.out (by rw [show wr.heap.size = k from HK.out] at *; exact HU.out) HO5.out HG5.out)
      go_roundw
      case rel => exact ⟨j + 1, _, by omega, by push_cast; rfl, HN5⟩
      case measure => simp only [intOf]; omega
    · have hjn : j = n := by omega
      subst hjn
      go_wp2
      go_ret
      exact ⟨_, _, rfl, HR.out⟩
end Go.Proofs.Ytljnboimadhkoaa
