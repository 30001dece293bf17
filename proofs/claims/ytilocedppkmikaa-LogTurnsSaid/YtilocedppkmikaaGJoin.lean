/-
  The contract of log.Join, of records that have frames; of the law's small.
-/
import Derived.Test.YtilocedppkmikaaGScan
namespace Go.Proofs.Ytilocedppkmikaa
open Go.ChangeShapes Go.WideShapes Go.ChangeAt Go.RowKit

/-- What a loop that joins frames holds. -/
def FramesRel (ls : List (List Nat)) (w : World) (v i : Value) (wr : World) : Prop := ∃ k : Nat, k ≤ ls.length ∧ i = .int .i64 (k : Int) ∧ wr.ownsRow w.heap.size 5 1 v (framesN (ls.take k)).length ((framesN (ls.take k)).map bv) ∧ Below w.heap.size w wr

theorem frames_step {ls : List (List Nat)} {k N : Nat} {w wr w2 w3 : World} {v v' : Value} {L : List Nat} (h : k < ls.length) (hL : L = frameN ls[k]) (hN : L.length = N) (hown : wr.ownsRow w.heap.size 5 1 v (framesN (ls.take k)).length ((framesN (ls.take k)).map bv)) (hb : Below w.heap.size w wr)
    (hb2 : Below wr.heap.size wr w2) (hown' : w3.ownsRow w.heap.size 5 1 v' ((framesN (ls.take k)).length + N) ((framesN (ls.take k)).map bv ++ L.map bv)) (hg : w2.grownBy w3 v.ownBlock) : FramesRel ls w v' (.int .i64 ((k : Int) + 1)) w3 := by
  subst hL
  have hown2 := row_below hown hb2
  have hB2 : Below w.heap.size w w2 := hb.trans (hb2.mono hb.size)
  refine ⟨k + 1, h, by go_num, ?_, hB2.grown hg hB2.size (fun j hj => (hown2.lt j hj).1)⟩
  rw [framesN_take_len h, framesN_take h, List.map_append, hN]
  exact hown'

/-- What Join hands back, in a row of its own. -/
def JoinsOwn (ls : List (List Nat)) (w : World) (e : Ending) (w' : World) : Prop :=
  ∃ s, e = .returned (.tuple #[s, .int .i64 0]) ∧ w'.ownsRow w.heap.size 5 1 s (framesN ls).length ((framesN ls).map bv) ∧ Below w.heap.size w w'

set_option maxRecDepth 100000 in
set_option maxHeartbeats 400000 in
theorem join_any (A : Option Addr) (ls : List (List Nat)) (n ca : Nat) (w : World) (hln : ls.length = n) (hl : n ≤ 9223372036854775807) (hrs : ∀ r ∈ ls, r.length ≤ 16384) (hN : (framesN ls).length ≤ 1000000) (hA : SeesRows w A ls) (hB : NilBare w A ls.length) :
    Calls Try.prog 14 #[.slice A n ca] w (JoinsOwn ls w) := by
  obtain ⟨i0, hi, hz0, hz1, hz2⟩ := info_parts info_u8
  have HA := hid hA
  have HNB := hid hB
  have HRS := hid hrs
  have HLN := hid hln
  clear hA hB hrs hln
  go_enter Try.func14, Try.ntmps14
  go_wp2
  go_loopw [4, 11] (fun v i wr => FramesRel ls w v i wr) (fun _ i _ => n - (intOf i).toNat)
  case atStart => exact ⟨0, Nat.zero_le _, rfl, World.ownsRow_nil _ _ _ _, Below.refl _ _⟩
  case round =>
    obtain ⟨k, hk, rfl, hown, hb⟩ := hrel
    have hkn : k ≤ n := by rw [← HLN.out]; exact hk
    have hsz := hb.size
    by_cases hlt : k < ls.length
    · have hltn : k < n := by rw [← HLN.out]; exact hlt
      obtain ⟨b, o, B, c, rfl, hbl, hc, hx, h8, hs⟩ := HA.out k ls[k] (List.getElem?_eq_getElem hlt)
      have hc2 := (hb.cell (p := ⟨b, o + k, none⟩) (by exact hbl)).trans hc
      have hcn : Hid (B = none → c = 0) := hid (HNB.out k b o B _ c hlt rfl hc)
      have HS := hid (hs.below hb)
      have HR := hid (HRS.out _ (List.getElem_mem hlt))
      have X8 := hid h8
      have hfl := framesN_take_le ls (k + 1)
      rw [framesN_take_len hlt] at hfl
      have HJ := hid (fun (w2 w3 : World) (v' : Value) (N : Nat) (h1 : (frameN ls[k]).length = N) => frames_step (w2 := w2) (w3 := w3) (v' := v') hlt rfl h1 hown hb)
      have HW := hid hown
      clear hc hs hown hb h8
      generalize (framesN (ls.take k)).length = q at *
      generalize framesN (ls.take k) = F at *
      generalize ls[k] = l at *
      obtain ⟨p, hp⟩ : ∃ p, l.length = p := ⟨_, rfl⟩
      obtain ⟨N, hN2⟩ : ∃ N, (frameN l).length = N := ⟨_, rfl⟩
      have HP := hid hp
      have HN := hid hN2
      rw [hp] at hc2 hx
      rw [hN2] at hfl
      clear hp hN2
      go_wp2_with (first
        | (go_at_call 8; ((with_reducible refine (frame_hands B l p c N _ HP.out (by have := HR.out; rw [HP.out] at this; exact this) hcn.out X8.out HS.out HN.out).mono ?_); rintro e w2 ⟨b2, o2, c2, rfl, _, _, hs2, hb2⟩; have HS2 := hid hs2; have HB2 := hid hb2; have HO2 := hid (row_below HW.out hb2); have hsz2 : w.heap.size ≤ w2.heap.size := Nat.le_trans hsz hb2.size; clear hs2 hb2))
        | (at_builtin; refine wpList_append_named rfl (.tmp 23) (.tmp 24) 22 rfl w.heap.size 5 i0 (.int .u8 0) 1 Try.underlying22 hi hz0 hz1 hz2 rfl _ _ _ rfl HO2.out .u8 (some ⟨b2, o2, none⟩) c2 (frameN l) N HN.out rfl (fun h => nomatch h) HS2.out (by unfold maxLen; omega) (by omega) hsz2 ?_; intro v' w3 hown3 hg3; have R := hid (HJ.out w2 w3 v' N HN.out HB2.out hown3 hg3); clear hown3 hg3))
      go_roundw
      case rel => exact R.out
      case measure => simp only [intOf]; omega
    · have hkn2 : ¬ k < n := by rw [← HLN.out]; exact hlt
      have e : ls.take k = ls := List.take_of_length_le (by omega)
      rw [e] at hown
      go_wp2
      go_ret2
      exact ⟨_, rfl, hown, hb⟩

/-- What a loop that goes through records holds. -/
def SmallRel (ls : List (List Nat)) (v i : Value) : Prop := ∃ k : Nat, k ≤ ls.length ∧ i = .int .i64 (k : Int) ∧ v = .int .i64 ((ls.take k).flatten.length : Int) ∧ (ls.take k).flatten.length ≤ 2000

/-- What small tells: if it's true, they are few, and short. -/
def SmallTells (ls : List (List Nat)) (w : World) (e : Ending) (w' : World) : Prop := ∃ t : Bool, e = .returned (.bool t) ∧ w = w' ∧ (t = true → ls.flatten.length ≤ 2000 ∧ ls.length ≤ 40)

set_option maxRecDepth 100000 in
set_option maxHeartbeats 400000 in
theorem small_any (A : Option Addr) (ls : List (List Nat)) (n ca : Nat) (w : World) (hln : ls.length = n) (hl : n ≤ 9223372036854775807) (hA : SeesRows w A ls) :
    Calls Try.prog 15 #[.slice A n ca] w (SmallTells ls w) := by
  have HA := hid hA
  have HLN := hid hln
  clear hA hln
  go_enter Try.func15, Try.ntmps15
  go_wp2
  go_loop [3, 8] (fun v i => SmallRel ls v i) (fun _ i => n - (intOf i).toNat)
  case atStart => exact ⟨0, Nat.zero_le _, rfl, rfl, by simp⟩
  case round =>
    obtain ⟨k, hk, rfl, rfl, hq⟩ := hrel
    have hkn : k ≤ n := by rw [← HLN.out]; exact hk
    by_cases hlt : k < ls.length
    · have hltn : k < n := by rw [← HLN.out]; exact hlt
      obtain ⟨b, o, B, c, rfl, hbl, hc, hx, _, _⟩ := HA.out k ls[k] (List.getElem?_eq_getElem hlt)
      have HL := hid (flat_len hlt)
      generalize ls[k] = l at *
      generalize (ls.take k).flatten.length = q at *
      by_cases h1 : 2000 < l.length
      · go_wp2
        go_ret
        exact ⟨false, rfl, rfl, fun h => by cases h⟩
      · by_cases h2 : 2000 < q + l.length
        · have h3 : ¬ (q : Int) + (l.length : Int) ≤ 2000 := by omega
          go_wp2
          go_ret
          exact ⟨false, rfl, rfl, fun h => by cases h⟩
        · have h3 : (q : Int) + (l.length : Int) ≤ 2000 := by omega
          go_wp2
          go_round
          case rel => exact ⟨k + 1, by omega, by go_num, by rw [HL.out]; go_num, by rw [HL.out]; omega⟩
          case measure => simp only [intOf]; omega
    · have hkn2 : k = n := by rw [← HLN.out]; omega
      have HF : Hid ((ls.take k).flatten.length = ls.flatten.length) := hid (by rw [List.take_of_length_le (by omega)])
      rw [HF.out] at hq ⊢
      have HQ := hid hq
      generalize ls.flatten.length = q at hq ⊢
      go_wp2
      go_ret
      exact ⟨decide ((n : Int) ≤ 40), rfl, rfl, fun h => ⟨HQ.out, by have := of_decide_eq_true h; rw [HLN.out]; omega⟩⟩

theorem frames_small {ls : List (List Nat)} (h1 : ls.flatten.length ≤ 2000) (h2 : ls.length ≤ 40) : (∀ r ∈ ls, r.length ≤ 2000) ∧ (framesN ls).length ≤ 2280 := by
  have h3 : ∀ r ∈ ls, r.length ≤ 2000 := by
    intro r hr
    obtain ⟨j, hj⟩ := List.getElem?_of_mem hr
    obtain ⟨hlt, rfl⟩ := List.getElem?_eq_some_iff.1 hj
    have := flat_le ls (j + 1)
    rw [flat_len hlt] at this
    omega
  refine ⟨h3, ?_⟩
  have := framesN_bound ls (fun r hr => by have := h3 r hr; omega)
  omega

end Go.Proofs.Ytilocedppkmikaa
