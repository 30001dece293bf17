/-
  The contracts of Put, Bytes, Parse (package inst).
-/
import Derived.Test.YtohffiehmmcgbaaGreatDoorXC
import Derived.Test.YtohffiehmmcgbaaGreatDoorXD
namespace Go.Proofs.YtohffiehmmcgbaaGreatDoor
open Go.ChangeShapes Go.WideShapes Go.ChangeAt Go.RowKit Go.Lib
set_option linter.unusedVariables false
set_option linter.unusedSimpArgs false
set_option maxRecDepth 100000 in
set_option maxHeartbeats 400000 in
theorem outtruthk_any (base g : Nat) (l : List Nat) (t : Bool) (w : World) (h : OutAt w base g l) (hlen : l.length + 1 ≤ 140737488355328) :
    Calls Tryz.prog 69 #[.pointer (some ⟨g, 0, none⟩), .bool t] w (PutsK base g (l ++ [truthN t]) w) := by
  have HO := hid (h.alloc (.cells #[.int .u8 (truthN t : Int)] 5))
  have hB := h.base_le
  clear h
  cases t with
  | true =>
    go_enter Tryz.func69, Tryz.ntmps69
    go_wp2_with fail
    refine (putk_as base g (some ⟨w.heap.size, 0, none⟩) l [truthN true] (l ++ [truthN true]) 1 1 _ rfl HO.out rfl (fun h => nomatch h) (sees_one _) hlen).mono ?_
    rintro en w1 ⟨⟨rfl, ho, hb⟩, hst⟩
    have HR : Hid (OutAt w1 base g (l ++ [truthN true]) ∧ Below base w w1 ∧ Stays g w w1) := hid ⟨ho, ((Below.refl _ _).alloc hB _).trans hb, (Stays.of_below ((Below.refl _ _).alloc (Nat.le_refl _) _)).trans hst⟩
    clear ho hb hst
    go_wp2
    go_ret
    exact ⟨⟨rfl, HR.out.1, HR.out.2.1⟩, HR.out.2.2⟩
  | false =>
    go_enter Tryz.func69, Tryz.ntmps69
    go_wp2_with fail
    refine (putk_as base g (some ⟨w.heap.size, 0, none⟩) l [truthN false] (l ++ [truthN false]) 1 1 _ rfl HO.out rfl (fun h => nomatch h) (sees_one _) hlen).mono ?_
    rintro en w1 ⟨⟨rfl, ho, hb⟩, hst⟩
    have HR : Hid (OutAt w1 base g (l ++ [truthN false]) ∧ Below base w w1 ∧ Stays g w w1) := hid ⟨ho, ((Below.refl _ _).alloc hB _).trans hb, (Stays.of_below ((Below.refl _ _).alloc (Nat.le_refl _) _)).trans hst⟩
    clear ho hb hst
    go_wp2
    go_ret
    exact ⟨⟨rfl, HR.out.1, HR.out.2.1⟩, HR.out.2.2⟩
theorem encJ_len (x : J) (hok : okJ x) (hK : okK x.c) (hr : rightJ x = true) : (encJ x).length ≤ 413 := by
  obtain ⟨a, b, v, u, t, ha, hb, hv, hu, ht, ha7, hb10, hvv, hvb, huu, hub, ht3, hn0, h0⟩ := rightJ_in hok hr
  unfold encJ
  rw [ha, hb, hv, hu, ht]
  simp only [Int.toNat_natCast]
  have q1 := shortN_len10 (v := b) (by omega)
  have q2 := shortN_len10 (v := v) (by omega)
  have q3 := shortN_len10 (v := u) (by omega)
  split
  · simp only [List.length_append, List.length_singleton, List.length_nil]; omega
  · obtain ⟨k1, k2⟩ := hn0 (by omega)
    obtain ⟨_, n0, n1⟩ := ok_nat k2
    have q4 := putTo_len n0 n1 7 (Nat.le_refl _)
    have q5 := enc_len x.c hK k1
    simp only [List.length_append, List.length_singleton]; omega
theorem encJ_byte (x : J) (hok : okJ x) (hK : okK x.c) (hr : rightJ x = true) : ∀ y ∈ encJ x, y < 256 := by
  obtain ⟨a, b, v, u, t, ha, hb, hv, hu, ht, ha7, hb10, hvv, hvb, huu, hub, ht3, hn0, h0⟩ := rightJ_in hok hr
  unfold encJ
  rw [ha, hb, hv, hu, ht]
  simp only [Int.toNat_natCast]
  have pb : ∀ (F : Nat → Nat) j, ∀ x ∈ putTo F j, x < 256 := fun F j => by
    induction j with
    | zero => exact shortN_byte _
    | succ j ih => intro x hx; unfold putTo at hx; exact (List.mem_append.1 hx).elim (ih x) (shortN_byte _ x)
  intro y hy
  simp only [List.mem_append, List.mem_singleton] at hy
  rcases hy with (((rfl | hy) | hy) | rfl) | hy
  · omega
  · exact shortN_byte _ y hy
  · exact shortN_byte _ y hy
  · omega
  · split at hy
    · cases hy
    · obtain ⟨k1, k2⟩ := hn0 (by omega)
      simp only [List.mem_append, List.mem_singleton] at hy
      rcases hy with ((hy | rfl) | hy) | hy
      · exact shortN_byte _ y hy
      · unfold truthN; split <;> omega
      · exact enc_byteK x.c hK k1 y hy
      · exact pb _ _ y hy
theorem results_row_num {P : Program} {fn : Func} {p q : Tmp} {ty : TypeId} (h : fn.results = #[.cell p ty, .tmp q]) (tmps : Array Value) (w : World) (g : Nat) (t : TypeId) (cs : Array Value) (fr : Nat × Nat) (d : TypeDesc) (u : Value)
    (hp : tmps.getD p undef = .pointer (some ⟨g, 0, none⟩)) (hq : tmps.getD q undef = u) (hg : w.heap[g]? = some (.cells cs t fr))
    (hu : P.underlying ty = some d) (hd : (match d with | .struct _ | .array _ _ => true | _ => false) = true) (hi : (P.info? ty).map (·.size) = some cs.size) :
    (results fn tmps).run P w = .ok (.tuple #[.agg cs, u]) w := by
  have hp' : tmps[p]?.getD undef = .pointer (some ⟨g, 0, none⟩) := by simpa using hp
  have hq' : tmps[q]?.getD undef = u := by simpa using hq
  simp [results, h, hp', hq', asAddr, run_loadVar_row w g t ty cs fr d hg hu hd hi]
end Go.Proofs.YtohffiehmmcgbaaGreatDoor
