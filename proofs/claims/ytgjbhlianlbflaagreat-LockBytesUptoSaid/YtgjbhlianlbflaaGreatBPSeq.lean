/-
  What stands between a text's slashes: contracts of strings.Cut at a slash, path.pieces and what it hands back.
-/
import Derived.Test.YtgjbhlianlbflaaGreatBPPart
import Derived.Test.YtgjbhlianlbflaaGreatShelf
import Derived.Lib.Strings
import Derived.Lib.IndexBytes
import Derived.OwnWalk
import Derived.RegionTactic
import Derived.RangeFuncNested
import Derived.RangeFuncBound
import Derived.RangeFuncCalls
import Derived.RangeFuncLeaves
import Derived.Shelf.Abstract
import Derived.Shelf.RegionOpen
import Derived.OwnWalkIn
import Derived.TacticsInMore
import Derived.LoopNIn
import Derived.LoopIn
namespace Go.Proofs.YtgjbhlianlbflaaGreat
open Go.ChangeShapes Go.WideShapes Go.ChangeAt Go.RowKit Go.Shelf
attribute [local go_sem] Oper.semAt_some
theorem index_cases : ∀ l : List UInt8, (Lib.indexByte l 47 = -1 ∧ pieces l = [l]) ∨ ∃ k : Nat, Lib.indexByte l 47 = (k : Int) ∧ k < l.length ∧ pieces l = l.take k :: pieces (l.drop (k + 1))
  | [] => .inl ⟨rfl, rfl⟩
  | c :: l => by
    by_cases hc : c = 47
    · subst hc
      exact .inr ⟨0, rfl, by simp, by rw [pieces_sl]; rfl⟩
    · have hb : (c == 47) = false := by simpa using hc
      rcases index_cases l with ⟨h1, h2⟩ | ⟨k, h1, h2, h3⟩
      · refine .inl ⟨?_, by rw [pieces_cons_ne hc h2]⟩
        simp only [Lib.indexByte, hb, h1]; decide
      · refine .inr ⟨k + 1, ?_, by simp; omega, by rw [pieces_cons_ne hc h3]; rfl⟩
        have hk : ((k : Int) == -1) = false := by simp
        simp [Lib.indexByte, hb, h1, hk]
theorem L_extract (s : ByteArray) (a b : Nat) : L (s.extract a b) = ((L s).drop a).take (b - a) := Lib.extract_data s a b
theorem L_rest (s : ByteArray) (a : Nat) : L (s.extract a s.size) = (L s).drop a := Lib.extract_to_end s a
theorem L_append (s t : ByteArray) : L (s ++ t) = L s ++ L t := by
  simp [L]
def CutAt (s a b : ByteArray) (f : Bool) : Prop := (f = true ∧ pieces (L s) = L a :: pieces (L b) ∧ b.size < s.size) ∨ (f = false ∧ pieces (L s) = [L a] ∧ b.size ≤ s.size)
def CutsS (s : ByteArray) (w : World) (e : Ending) (w' : World) : Prop :=
  ∃ (a b : ByteArray) (f : Bool), e = .returned (.tuple #[.string a, .string b, .bool f]) ∧ CutAt s a b f ∧ ∃ n, w' = w.drewN n
set_option maxHeartbeats 2000000 in
set_option maxRecDepth 100000 in
theorem cutlite_any (s : ByteArray) (w : World) (hs : s.size ≤ 4611686018427387904) : Calls Tryz.prog 126 #[.string s, .string ⟨#[47]⟩] w (CutsS s w) := by
  rcases index_cases (L s) with ⟨h1, h2⟩ | ⟨k, h1, h2, h3⟩
  · have H := hid h2
    clear h2
    go_enter Tryz.func126, Tryz.ntmps126
    go_wp2_with (go_at_call 146; refine (Tryz.stringslite_Index_one s 47 _).mono ?_; rintro e w' ⟨rfl, rfl⟩; rw [show Lib.indexByte s.data.toList 47 = _ from h1])
    go_ret3
    exact ⟨s, ⟨#[]⟩, false, rfl, .inr ⟨rfl, H.out, Nat.zero_le _⟩, 0, rfl⟩
  · rw [L_length] at h2
    have H := hid h3
    have H1 := hid h1
    clear h3 h1
    have c1 : (0 : Int) ≤ ↑k := by omega
    have c2 : (↑k : Int) ≤ ↑s.size := by omega
    have c3 : (0 : Int) ≤ ↑k + 1 := by omega
    have c4 : (↑k + 1 : Int) ≤ ↑s.size := by omega
    go_enter Tryz.func126, Tryz.ntmps126
    go_wp2_with (go_at_call 146; refine (Tryz.stringslite_Index_one s 47 _).mono ?_; rintro e w' ⟨rfl, rfl⟩; rw [show Lib.indexByte s.data.toList 47 = _ from H1.out])
    go_region
    go_wp2
    go_ret3
    refine ⟨s.extract 0 k, s.extract (k + 1) s.size, true, rfl, .inl ⟨rfl, ?_, ?_⟩, 1, rfl⟩
    · rw [L_rest, L_extract, H.out]; simp
    · have := ByteArray.size_extract (a := s) (b := k + 1) (e := s.size)
      rw [this]; omega
set_option maxHeartbeats 1000000 in
theorem cut_any (s : ByteArray) (w : World) (hs : s.size ≤ 4611686018427387904) : Calls Tryz.prog 100 #[.string s, .string ⟨#[47]⟩] w (CutsS s w) := by
  go_enter Tryz.func100, Tryz.ntmps100
  go_wp2_with fail
  refine (cutlite_any s _ hs).mono ?_
  rintro e w1 ⟨a, b, f, rfl, hc, n, rfl⟩
  have H := hid hc
  clear hc
  go_wp2
  go_ret3
  exact ⟨a, b, f, rfl, H.out, n, rfl⟩
def restLeft (r m : Value) : Nat := match m, r with
  | .bool true, .string s => s.size + 1
  | _, _ => 0
theorem grown_drewN (w : World) (n : Nat) : w.grownBy (w.drewN n) none := ⟨rfl, rfl, rfl, Nat.le_refl _, fun _ _ _ => rfl⟩
set_option maxRecDepth 100000 in
set_option maxHeartbeats 2000000 in
theorem pieces_stops (n : Nat) (hn : 1 ≤ n) (s : ByteArray) (hs : s.size ≤ 4611686018427387903) (g : Nat) (w : World) (hg : g < w.heap.size) (hc : w.cell? ⟨g, 0, none⟩ = some (.string s)) :
    SeqStopsK Fence.wide n Tryz.prog 99 #[.pointer (some ⟨g, 0, none⟩)] (fun x : ByteArray => #[Value.string x]) (fun _ _ => True)
      (fun ys => ys.map L = pieces (L s)) (fun pre => pre ≠ [] ∧ pre.map L <+: pieces (L s)) (s.size + 1) w := fun l J Jx W hW hJ _ hY h0 => by
  have hc' := (hW.cell (p := ⟨g, 0, none⟩) hg).trans hc
  have hlen : ∀ (pre : List ByteArray) (r : ByteArray), pre.map L ++ pieces (L r) = pieces (L s) → pre.length < s.size + 1 := fun pre r h => by
    have h1 := congrArg List.length h
    have h2 := pieces_length (L s)
    have h3 : 0 < (pieces (L r)).length := List.length_pos_iff.2 (pieces_ne _)
    rw [L_length] at h2
    rw [List.length_append, List.length_map] at h1
    omega
  have HL := hid hlen
  have HY := hid hY
  have HJ := hid hJ
  clear hlen hY hJ hc
  refine callsIn_of_wp Tryz.func99 rfl trivial ?_ rfl
  simp only [Tryz.ntmps99, List.size_toArray, List.length_cons, List.length_nil, Nat.reduceAdd, Nat.reduceSub, Array.replicate_succ, Array.replicate_zero, List.push_toArray, List.append_toArray, List.nil_append, List.cons_append]
  gi_wp2
  gi_loopw [3, 4] (fun r m wr => ∃ (pre : List ByteArray) (rest : ByteArray) (more : Bool), r = .string rest ∧ m = .bool more ∧ J pre wr ∧ rest.size ≤ s.size ∧ Hid ((more = true ∧ pre.map L ++ pieces (L rest) = pieces (L s)) ∨ (more = false ∧ pre.map L = pieces (L s))))
    (fun r m _ => restLeft r m)
  case atStart => exact ⟨[], s, true, rfl, rfl, h0, Nat.le_refl _, hid (.inl ⟨rfl, rfl⟩)⟩
  case round =>
    obtain ⟨pre, rest, more, rfl, rfl, hJs, hr, H⟩ := hrel
    rcases H.out with ⟨rfl, hp⟩ | ⟨rfl, hp⟩
    · have HP := hid hp
      clear hp
      gi_wp2_with fail
      refine ⟨trivial, ?_⟩
      refine (callsIn_wide.2 (cut_any rest _ (by omega))).mono ?_
      rintro e w1 ⟨a, b, f, rfl, hcut, m, rfl⟩
      have HC := hid hcut
      clear hcut
      have hJ1 : J pre (wr.drewN m) := HJ.out pre wr _ none hJs (grown_drewN wr m) (fun r e => nomatch e)
      obtain ⟨fn, tmps, assign, body, hy, hR⟩ := HY.out pre a (wr.drewN m) hJ1 (HL.out pre rest HP.out)
      gi_wp2
      refine hR.mono ?_
      rintro e W3 (⟨rfl, hJ3, _⟩ | ⟨rfl, hJx3⟩)
      · gi_wp2
        go_roundw
        case rel =>
          refine ⟨pre ++ [a], b, f, rfl, rfl, hJ3, ?_, hid ?_⟩
          · rcases HC.out with ⟨_, _, h⟩ | ⟨_, _, h⟩ <;> omega
          · rcases HC.out with ⟨rfl, h, _⟩ | ⟨rfl, h, _⟩
            · exact .inl ⟨rfl, by rw [← HP.out, h]; simp⟩
            · exact .inr ⟨rfl, by rw [← HP.out, h]; simp⟩
        case measure =>
          rcases HC.out with ⟨rfl, _, h⟩ | ⟨rfl, _, h⟩
          · show b.size + 1 < rest.size + 1; omega
          · show 0 < rest.size + 1; omega
      · gi_wp2
        refine bodyPost_ret (results_none rfl _ _ _) rfl ?_
        refine ⟨⟨_, rfl⟩, .inr ⟨pre ++ [a], ⟨by simp, ?_⟩, hJx3⟩⟩
        rcases HC.out with ⟨_, h, _⟩ | ⟨_, h, _⟩
        · rw [← HP.out, h]; exact ⟨pieces (L b), by simp⟩
        · rw [← HP.out, h]; exact ⟨[], by simp⟩
    · have HP := hid hp
      clear hp
      gi_wp2
      go_end0
      exact ⟨⟨_, rfl⟩, .inl ⟨pre, HP.out, hJs⟩⟩
end Go.Proofs.YtgjbhlianlbflaaGreat
