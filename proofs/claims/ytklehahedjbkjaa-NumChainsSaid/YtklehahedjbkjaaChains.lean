/-
  NumChains: short numbers that are written one behind the other are read one by one, and nothing else is. No condition.
-/
import Derived.Test.YtklehahedjbkjaaSame
namespace Go.Proofs.Ytklehahedjbkjaa.numChains
open Go.ChangeShapes Go.WideShapes Go.ChangeAt Go.RowKit
set_option linter.unusedVariables false

theorem own : ownKnob Try.prog.godebug = none := by kernel_rfl
theorem laidOut : laidOutB Try.prog = true := by kernel_rfl
theorem cells_u64 : Try.prog.cellsOf 22 = 1 := by kernel_rfl
theorem bytes_u64 : Try.prog.bytesOf 22 = 8 := by kernel_rfl

def chainN (l : List Nat) : List Nat := l.flatMap shortN
theorem chainN_app (a b : List Nat) : chainN (a ++ b) = chainN a ++ chainN b := by unfold chainN; rw [List.flatMap_append]
theorem chainN_one (x : Nat) : chainN [x] = shortN x := by simp [chainN]
theorem chainN_cons (x : Nat) (l : List Nat) : chainN (x :: l) = shortN x ++ chainN l := by simp [chainN]
theorem chainN_snoc {l : List Nat} {k : Nat} (h : k < l.length) : chainN (l.take (k + 1)) = chainN (l.take k) ++ shortN l[k] := by
  rw [List.take_succ_eq_append_getElem h, chainN_app, chainN_one]
theorem chainN_parts (l : List Nat) (k : Nat) : chainN l = chainN (l.take k) ++ chainN (l.drop k) := by
  unfold chainN; rw [← List.flatMap_append, List.take_append_drop]
theorem chainN_drop (l : List Nat) (k : Nat) : (chainN l).drop (chainN (l.take k)).length = chainN (l.drop k) := by
  conv => lhs; arg 2; rw [chainN_parts l k]
  rw [List.drop_left]
theorem chainN_next {l : List Nat} {k : Nat} (h : k < l.length) : chainN (l.drop k) = shortN l[k] ++ chainN (l.drop (k + 1)) := by
  rw [List.drop_eq_getElem_cons h, chainN_cons]
theorem chainN_len (l : List Nat) (h : ∀ x ∈ l, x < 18446744073709551616) : (chainN l).length ≤ 10 * l.length := by
  induction l with
  | nil => simp [chainN]
  | cons x l ih =>
    have h1 := shortN_len10 (h x (List.mem_cons_self))
    have h2 := ih (fun y hy => h y (List.mem_cons_of_mem _ hy))
    have e : chainN (x :: l) = shortN x ++ chainN l := by simp [chainN]
    rw [e, List.length_append, List.length_cons]
    omega
theorem chainN_byte (l : List Nat) : ∀ x ∈ chainN l, x < 256 := by
  intro x hx
  obtain ⟨v, _, hv⟩ := List.mem_flatMap.1 hx
  exact shortN_byte v x hv

theorem own_below {w w' : World} {base : Nat} {e : TypeId} {v : Value} {n : Nat} {xs : List Value} (h : w.ownsRow base e 1 v n xs) (hb : Below w.heap.size w w') : w'.ownsRow base e 1 v n xs :=
  h.kept (row := none) ⟨hb.os, hb.tape, hb.output, hb.size, fun k hk _ => hb.block k hk⟩ (by cases hv : v.ownBlock <;> simp)

theorem short_zero (w : World) : Calls Try.prog 16 #[.int .u64 0] w fun e w' => ∃ A c, e = .returned (.slice A 1 c) ∧ Below w.heap.size w w' := by
  refine (short_hands 0 w (by decide)).mono ?_
  rintro e w' ⟨A, c, rfl, _, _, _, hb⟩
  exact ⟨A, c, by rw [shortN_lo (by decide)]; rfl, hb⟩

/-- The loop that writes. -/
def WriteRel (l : List Nat) (w0 : World) (s i : Value) (wr : World) : Prop :=
  ∃ k : Nat, k ≤ l.length ∧ i = .int .i64 (k : Int) ∧ wr.ownsRow w0.heap.size 5 1 s (chainN (l.take k)).length ((chainN (l.take k)).map fun y : Nat => Value.int .u8 (y : Int)) ∧ Below w0.heap.size w0 wr

theorem write_step {l : List Nat} {k v : Nat} {w0 wr w2 w3 : World} {s s' : Value} {i : Int} (hk : k < l.length) (hv : l[k]? = some v) (hb : Below w0.heap.size w0 wr) (hb2 : Below wr.heap.size wr w2) (hi : i = (k : Int) + 1)
    (hown : w2.ownsRow w0.heap.size 5 1 s (chainN (l.take k)).length ((chainN (l.take k)).map fun y : Nat => Value.int .u8 (y : Int)))
    (hown' : w3.ownsRow w0.heap.size 5 1 s' ((chainN (l.take k)).length + (shortN v).length) (((chainN (l.take k)).map fun y : Nat => Value.int .u8 (y : Int)) ++ (shortN v).map fun y : Nat => Value.int .u8 (y : Int)))
    (hg : w2.grownBy w3 s.ownBlock) : WriteRel l w0 s' (.int .i64 i) w3 := by
  subst hi
  have he : l[k] = v := by rw [List.getElem?_eq_getElem hk] at hv; injection hv
  have hz := Nat.le_trans hb.size hb2.size
  refine ⟨k + 1, by omega, by congr 1, ?_, (hb.trans (hb2.mono hb.size)).grown hg hz (fun j hj => (hown.lt j hj).1)⟩
  rw [chainN_snoc hk, he, List.length_append, List.map_append]
  exact hown'

/-- The loop that reads. -/
def ReadsRel (l : List Nat) (at' i : Value) : Prop := ∃ k a : Nat, k ≤ l.length ∧ i = .int .i64 (k : Int) ∧ at' = .int .i64 (a : Int) ∧ a = (chainN (l.take k)).length

set_option maxRecDepth 100000 in
set_option maxHeartbeats 400000 in
theorem walk_long (A : Option Addr) (n ca : Nat) (w : World) (h : 40 < n) :
    Calls Try.prog 9 #[.slice A n ca] w fun e w' => e = .returned (.bool true) ∧ Below w.heap.size w w' := by
  go_enter Try.func9, Try.ntmps9
  go_wp2_with (go_at_call 10; refine (anchor_any _).mono ?_; rintro e w1 ⟨rfl, hw1⟩)
  go_ret
  exact ⟨rfl, hw1⟩

set_option maxRecDepth 100000 in
set_option maxHeartbeats 1000000 in
theorem walk_short (A : Option Addr) (l : List Nat) (ca : Nat) (w : World) (hl : l.length ≤ 40) (hv : ∀ x ∈ l, x < 18446744073709551616) (hA : Sees .u64 w A l) :
    Calls Try.prog 9 #[.slice A l.length ca] w fun e w' => e = .returned (.bool true) ∧ Below w.heap.size w w' := by
  obtain ⟨i0, hi, hz0, hz1, hz2⟩ := info_parts info_u8
  have HA := hid hA
  have HV := hid hv
  have HL := hid (chainN_len l hv)
  clear hA hv
  go_enter Try.func9, Try.ntmps9
  go_wp2_with (go_at_call 10; refine (anchor_any _).mono ?_; rintro e w1 ⟨rfl, hw1⟩)
  go_loopw [3, 22] (fun s i wr => WriteRel l w1 s i wr) (fun _ i _ => l.length - (intOf i).toNat)
  case atStart => exact ⟨0, Nat.zero_le _, rfl, World.ownsRow_nil _ _ _ _, Below.refl _ _⟩
  case round =>
    obtain ⟨k, hk, rfl, hown, hb⟩ := hrel
    have hlen : (chainN (l.take k)).length ≤ 400 := by have h1 := HL.out; rw [chainN_parts l k, List.length_append] at h1; omega
    by_cases hlt : k < l.length
    · have hx := List.getElem?_eq_getElem hlt
      have hv64 := HV.out _ (List.getElem_mem hlt)
      generalize l[k] = v at *
      obtain ⟨b, o, rfl, _, hc⟩ := (HA.out.below (below_on hw1 hb)) k v hx
      have hv10 := shortN_len10 hv64
      have HX := hid hx
      have HO := hid hown
      clear hx hown
      go_wp2_with (first
        | (go_at_call 16; ((with_reducible refine (short_hands v _ hv64).mono ?_); rintro e w2 ⟨A1, c1, rfl, hn1, _, hs1, hb1⟩; have HO2 := hid (own_below HO.out hb1); have z2 := Nat.le_trans hb.size hb1.size))
        | (at_builtin; refine wpList_append_sees rfl (.tmp 26) (.tmp 28) 23 rfl w1.heap.size 5 i0 (.int .u8 0) 1 Try.underlying23 hi hz0 hz1 hz2 rfl _ _ _ rfl HO2.out .u8 A1 c1 (shortN v) rfl hn1 hs1 (by unfold maxLen; omega) (by omega) z2 ?_; intro s3 w3 hown3 hg3; have HS := hid (write_step hlt HX.out hb hb1 rfl HO2.out hown3 hg3); clear hown3 hg3))
      go_roundw
      case rel => exact HS.out
      case measure => simp only [intOf]; omega
    · have hkl : k = l.length := by omega
      have ht : l.take k = l := by rw [hkl]; exact List.take_length
      rw [ht] at hown hlen
      obtain ⟨Ab, cb, rfl, hbn, hbc, hbs⟩ := own_slice hown
      have hT8 := hid (chainN_byte l)
      have hTl : (chainN l).length ≤ 400 := hlen
      have B3 := below_on hw1 hb
      have SA := hid ((HA.out.below B3))
      have SB := hid hbs
      clear hown ht hkl hbs hlen
      go_wp2
      go_loop [6, 33] (fun p i => ReadsRel l p i) (fun _ i => l.length - (intOf i).toNat)
      case atStart => exact ⟨0, 0, Nat.zero_le _, rfl, rfl, by simp [chainN]⟩
      case round =>
        obtain ⟨j, a, hj, rfl, rfl, ha⟩ := hrel
        have hTle := chainN_parts l j
        have hale : a ≤ (chainN l).length := by rw [ha, hTle, List.length_append]; omega
        have HD := hid (chainN_drop l j)
        rw [← ha] at HD
        by_cases hlt : j < l.length
        · have hx := List.getElem?_eq_getElem hlt
          have hv64 := HV.out _ (List.getElem_mem hlt)
          have hnext := chainN_next hlt
          have hsn := chainN_snoc hlt
          generalize l[j] = v at *
          obtain ⟨b, o, rfl, _, hc⟩ := SA.out j v hx
          have hpos := shortN_pos v
          have hv10 := shortN_len10 hv64
          have hlenT : a + (shortN v).length ≤ (chainN l).length := by rw [ha, hTle, List.length_append, hnext, List.length_append]; omega
          have HR := hid (readN_short v (chainN (l.drop (j + 1))) hv64)
          have HE : Hid ((chainN l).drop a = shortN v ++ chainN (l.drop (j + 1))) := hid (by rw [HD.out, hnext])
          have HA2 : Hid (a + (shortN v).length = (chainN (l.take (j + 1))).length) := hid (by rw [hsn, List.length_append, ← ha])
          obtain ⟨t0, ht0⟩ : ∃ t0, (chainN l)[0]? = some t0 := ⟨_, List.getElem?_eq_getElem (show 0 < (chainN l).length by omega)⟩
          obtain ⟨gb, ob, rfl, hgb, _⟩ := SB.out 0 t0 ht0
          have HSd : Hid (Sees .u8 wr (some ⟨gb, ob + a, none⟩) (shortN v ++ chainN (l.drop (j + 1)))) := hid (by rw [← HE.out]; exact SB.out.rest rfl)
          have HEl : Hid ((shortN v ++ chainN (l.drop (j + 1))).length = (chainN l).length - a) := hid (by rw [← HE.out, List.length_drop])
          have HE8 : Hid (∀ x ∈ shortN v ++ chainN (l.drop (j + 1)), x < 256) := hid (fun x hx => hT8.out x (List.mem_of_mem_drop (i := a) (by rw [HE.out]; exact hx)))
          clear ht0
          have hcapne : ¬ cb = a := by omega
          have haI : (a : Int) ≤ ((chainN l).length : Int) := by omega
          clear hx hnext hsn hTle ha
          go_wp2_with (go_at_call 18; ((with_reducible refine (readshort_as _ (shortN v ++ chainN (l.drop (j + 1))) _ _ _ (by omega) HEl.out HE8.out HSd.out).mono ?_); rintro e w' ⟨rfl, rfl⟩; rw [HR.out]))
          go_round
          case rel => exact ⟨j + 1, a + (shortN v).length, by omega, by go_num, by go_num, HA2.out⟩
          case measure => simp only [intOf]; omega
        · have hjl : j = l.length := by omega
          rw [hjl, List.take_length] at ha
          subst ha
          clear hTle hjl HD
          have hN : Hid (readN [] = (0, 0, 20)) := hid rfl
          go_wp2_with (first
            | (go_at_call 18; ((with_reducible refine (readshort_as _ [] 0 _ _ (by omega) rfl (by simp) (Sees.nil _ _ _)).mono ?_); rintro e w' ⟨rfl, rfl⟩; rw [hN.out]))
            | (go_at_call 16; ((with_reducible refine (short_zero _).mono ?_); rintro e w2 ⟨A1, c1, rfl, hb1⟩))
            | (go_at_call 12; ((with_reducible refine (same_len _ _ _ _ _ _ _ (by decide)).mono ?_); rintro e w3 ⟨rfl, hb3⟩)))
          all_goals go_ret
          all_goals exact ⟨rfl, below_on (below_on B3 hb1) hb3⟩

/-- The Go text returns true. -/
theorem walk (A : Option Addr) (l : List Nat) (ca : Nat) (hn : A = none → ca = 0) (hl : l.length ≤ ca) (hm : ca ≤ maxLen) (hr : l.length * 8 ≤ 140737488351232) (h8 : ∀ x ∈ l, (Lit.int .u64 (x : Int)).wf = true) (w : World) (hA : Sees .u64 w A l) :
    Calls Try.prog 9 #[.slice A l.length ca] w fun e w' => e = .returned (.bool true) ∧ Below w.heap.size w w' := by
  by_cases h : 40 < l.length
  · exact walk_long A l.length ca w h
  · exact walk_short A l ca w (by omega) (fun x hx => by have := u64_lt _ (h8 x hx); omega) hA

set_option maxRecDepth 100000 in
theorem lifted (os : Os) (started : os.Started) (H : Type) (enc : TypeId × Value → H) :
    ReturnsInHanded {} Try.checked os 9 .any (Rows.numChainsSpec.pre6 enc Try.prog Try.f9 Rows.numChainsRow.domain false) (Rows.numChainsSpec.post enc Try.prog Try.f9 false true false false) := by
  refine returnsInHanded_of_change_sized (C := Try.checked) own started (by kernel_rfl) Try.func9
    (ChangeSpec.witness6 (enc := enc) (C := Try.checked) false ⟨#[], #[.slice none 0 0], []⟩ 8 (by kernel_rfl) (by kernel_rfl) (by kernel_rfl) (by kernel_rfl)) ?_
  intro W base args ds gs before hval0 hW _ hsz0 _
  have hsz : (DataW.weightsEach Try.prog (Try.f9.params.toList ++ Rows.numChainsSpec.plain.varTypes Try.prog) (ds ++ gs)).all (· ≤ reachBytes) = true := hsz0
  have hval : ∀ (j : Nat) t v, Try.f9.params[j]? = some t → args[j]? = some v → Value.okWide Try.prog W .any base t v := hval0
  have hW' := hW
  obtain ⟨p, q, hA0, hV, rfl, _, _⟩ := hW
  have hA : DataW.TrodAll enc Try.prog W 0 (fun _ => true) true Try.f9.params.toList args.toList ds p := hA0
  rw [Try.params9] at hA hval hsz
  have hlt : ∀ x ∈ p, x.block < W.heap.size := fun x hx => by simpa using hW'.lt x (List.mem_append_left _ hx)
  obtain ⟨v0, vs0, d0, ds0, p0, q0, hargs, rfl, rfl, g0, r0⟩ := trodAll_cons hA
  obtain ⟨rfl, rfl, rfl⟩ := trodAll_nil r0
  obtain rfl : args = #[v0] := by cases args; simp_all
  obtain ⟨rfl, rfl⟩ := trodVars_none hV
  obtain ⟨A0, c0, l0, rfl, hn0, hl0, hm0, hs0, hw0, hd0⟩ := open_nums Try.underlying44 Try.underlying22 cells_u64 u64_pos (hval 0 44 v0 rfl rfl) g0 (fun x hx => hlt x <| List.mem_append_left _ hx)
  have hr0 : l0.length * 8 ≤ 140737488351232 := by
    rcases hd0 with rfl | ⟨es, sp, hd, hlen⟩
    · simp
    · have := sized_slice hsz (j := 0) (t := 44) (e := 22) rfl (by rw [hd]; rfl) Try.underlying44
      rw [bytes_u64] at this
      simp only [reachBytes] at this
      omega
  refine (walk A0 l0 c0 hn0 hl0 hm0 hr0 hw0 W hs0).mono fun e W' ⟨he, hg⟩ => ?_
  subst he
  exact ⟨_, rfl, law_post laidOut hW' (by kernel_rfl) rfl rfl Try.underlying4 rfl hg⟩

theorem proved : Rows.NumChainsSaid :=
  OpenClaim.holds_of_wide 9 Try.f9 rfl rfl rfl rfl rfl rfl rfl ⟨rfl, rfl, rfl, rfl, rfl⟩ rfl rfl rfl rfl rfl (by kernel_rfl) Try.func9 (by kernel_rfl)
    (of_decide_eq_true (by kernel_rfl)) (by unfold Func.isWrapper; first | (rw [if_pos (by decide +kernel)]; kernel_rfl) | (rw [if_neg (by decide +kernel)]; exact ⟨rfl, rfl⟩))
    (fun os started H enc _ => lifted os started H enc)
#print axioms proved
end Go.Proofs.Ytklehahedjbkjaa.numChains
