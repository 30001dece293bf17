/-
  WirePuts, where what comes in is of bulk at most 1048576: whatever is put is taken again, in its order, and nothing is left.
-/
import Derived.Test.YtjefhnhlkhnogaaNew
import Derived.Test.YtjefhnhlkhnogaaOut
import Derived.Test.YtjefhnhlkhnogaaOps
import Derived.Test.YtjefhnhlkhnogaaRSame
import Derived.JoinedCond
import Derived.Deep.QuietTactic
import Derived.BigQuiet
import Derived.RegionTactic
import Derived.Deep.RegionHeld3
import Derived.Deep.DrawnRows
namespace Go.Proofs.Ytjefhnhlkhnogaa.wirePuts
open Go.ChangeShapes Go.WideShapes Go.ChangeAt Go.RowKit
attribute [local go_sem ↓] Go.wp_at_zero Go.wp_at_succ
set_option linter.unusedVariables false

/-- The box of a thing. -/
def xbox (x : OpV) : Obj := .cells #[.int .i64 x.kind, .int .u64 (x.num : Int), .string x.text] 31

/-- What a thing has, put. -/
def encOf (x : OpV) : List Nat :=
  if x.kind = 1 then [x.num % 256]
  else if x.kind = 2 then [truthN ((x.num : Int) % 2 == 1)]
  else if x.kind = 3 then shortN x.num
  else if x.kind = 4 then bytesN x.num 8
  else if x.kind = 5 then shortN x.text.size ++ bytesOfS x.text
  else []
def encAll (ops : List OpV) : List Nat := ops.flatMap encOf

theorem encAll_snoc {ops : List OpV} {k : Nat} (h : k < ops.length) : encAll (ops.take (k + 1)) = encAll (ops.take k) ++ encOf ops[k] := by
  unfold encAll
  rw [List.take_succ_eq_append_getElem h, List.flatMap_append, List.flatMap_singleton]
theorem encAll_next {ops : List OpV} {k : Nat} (h : k < ops.length) : encAll (ops.drop k) = encOf ops[k] ++ encAll (ops.drop (k + 1)) := by
  unfold encAll
  rw [List.drop_eq_getElem_cons h, List.flatMap_cons]
theorem encAll_parts (ops : List OpV) (k : Nat) : encAll ops = encAll (ops.take k) ++ encAll (ops.drop k) := by
  unfold encAll
  rw [← List.flatMap_append, List.take_append_drop]
theorem encAll_le (ops : List OpV) (k : Nat) : (encAll (ops.take k)).length ≤ (encAll ops).length ∧ (encAll (ops.drop k)).length ≤ (encAll ops).length := by
  have h := congrArg List.length (encAll_parts ops k)
  rw [List.length_append] at h
  omega
theorem eqI {a b : Int} (h : a ≠ b) : (a == b) = false := by rw [beq_eq_false_iff_ne]; exact h
theorem truthN_le (t : Bool) : truthN t ≤ 1 := by cases t <;> decide
theorem encOf_byte (x : OpV) : ∀ y ∈ encOf x, y < 256 := by
  intro y hy
  unfold encOf at hy
  split at hy
  · simp at hy; omega
  split at hy
  · simp at hy; have := truthN_le ((x.num : Int) % 2 == 1); omega
  split at hy
  · exact shortN_byte _ _ hy
  split at hy
  · exact bytesN_byte _ _ _ hy
  split at hy
  · rcases List.mem_append.1 hy with h | h
    · exact shortN_byte _ _ h
    · exact bytesOfS_byte _ _ h
  · cases hy
theorem encAll_byte (ops : List OpV) : ∀ y ∈ encAll ops, y < 256 := by
  intro y hy
  obtain ⟨x, _, h⟩ := List.mem_flatMap.1 hy
  exact encOf_byte x y h

/-- How much of a thing's text counts. -/
def textsOf (ops : List OpV) : Nat := (ops.map fun x => x.text.size).sum
theorem encOf_len (x : OpV) (h : (x.num : Int) ≤ 18446744073709551615) (h2 : x.text.size ≤ 9223372036854775807) : (encOf x).length ≤ 10 + x.text.size := by
  unfold encOf
  split
  · simp only [List.length_singleton]; omega
  split
  · simp only [List.length_singleton]; omega
  split
  · have := shortN_len10 (show x.num < 18446744073709551616 by omega); omega
  split
  · rw [bytesN_len]; omega
  split
  · have := shortN_len10 (show x.text.size < 18446744073709551616 by omega)
    rw [List.length_append, bytesOfS_len]; omega
  · simp
theorem encAll_len (ops : List OpV) (h : ∀ x ∈ ops, (x.num : Int) ≤ 18446744073709551615 ∧ x.text.size ≤ 9223372036854775807) : (encAll ops).length ≤ 10 * ops.length + textsOf ops := by
  induction ops with
  | nil => simp [encAll]
  | cons x r ih =>
    have h1 := encOf_len x (h x (by simp)).1 (h x (by simp)).2
    have h2 := ih (fun y hy => h y (by simp [hy]))
    have e : encAll (x :: r) = encOf x ++ encAll r := by simp [encAll]
    have e2 : textsOf (x :: r) = x.text.size + textsOf r := by simp [textsOf]
    rw [e, e2, List.length_append, List.length_cons]
    omega

/-- What is put is taken again. -/
theorem sByte_put (v : Nat) (r : List Nat) : sByte ([v] ++ r) 0 = (r, 0, v) := rfl
theorem sTruth_put (t : Bool) (r : List Nat) : sTruth ([truthN t] ++ r) 0 = (r, 0, t) := by cases t <;> rfl
theorem sShort_put (v most : Nat) (r : List Nat) (hv : v < 18446744073709551616) (hm : v ≤ most) : sShort (shortN v ++ r) 0 most = (r, 0, v) := by
  unfold sShort
  rw [readN_short v r hv, if_pos rfl, if_neg (by show ¬ most < v; omega), List.drop_left]
theorem sFixed_put (v : Nat) (r : List Nat) (hv : v < 18446744073709551616) : sFixed (bytesN v 8 ++ r) 0 = (r, 0, v) := by
  have hl := bytesN_len 8 v
  unfold sFixed
  rw [if_neg (by rw [List.length_append, hl]; omega)]
  have e1 : (bytesN v 8 ++ r).drop 8 = r := by rw [List.drop_append_of_le_length (by omega), List.drop_of_length_le (by omega), List.nil_append]
  have e2 : (bytesN v 8 ++ r).take 8 = bytesN v 8 := by rw [List.take_append_of_le_length (by omega), List.take_of_length_le (by omega)]
  rw [e1, e2, numN_bytesN, Nat.mod_eq_of_lt (by omega)]
theorem sText_put (l r : List Nat) (n : Nat) (hn : l.length = n) (hv : n < 18446744073709551616) : sText ((shortN n ++ l) ++ r) 0 n = (r, 0, l) := by
  unfold sText
  rw [List.append_assoc, sShort_put n n (l ++ r) hv (Nat.le_refl _)]
  rw [if_pos ⟨rfl, by show n ≤ (l ++ r).length; rw [List.length_append]; omega⟩]
  show ((l ++ r).drop n, 0, (l ++ r).take n) = _
  rw [← hn, List.drop_left, List.take_left]

set_option maxRecDepth 100000 in
set_option maxHeartbeats 400000 in
theorem walk_long (a : Option Addr) (n ca : Nat) (w : World) (h : 60 < n) :
    Calls Try.prog 4 #[.slice a n ca] w fun e w' => e = .returned (.bool true) ∧ Below w.heap.size w w' := by
  go_enter Try.func4, Try.ntmps4
  go_wp2_with (go_at_call 5; refine (anchor_any _).mono ?_; rintro e w1 ⟨rfl, hw1⟩)
  go_ret
  exact ⟨rfl, hw1⟩

/-- What the loop that puts holds. -/
def PutsRel (ops : List OpV) (base g : Nat) (w1 : World) (i : Value) (wr : World) : Prop :=
  ∃ k : Nat, k ≤ ops.length ∧ i = .int .i64 (k : Int) ∧ OutAt wr base g (encAll (ops.take k)) ∧ Below base w1 wr
/-- What the loop that takes holds. -/
def GetsRel (ops : List OpV) (gi : Nat) (w4 : World) (i : Value) (wr : World) : Prop :=
  ∃ k : Nat, k ≤ ops.length ∧ i = .int .i64 (k : Int) ∧ InAt wr gi (encAll (ops.drop k)) 0 ∧ Below w4.heap.size w4 wr

theorem puts_step {ops : List OpV} {base g k : Nat} {w1 wr w2 : World} {l : List Nat} {o : Obj} {i : Int} (hk : k < ops.length) (hi : i = (k : Int) + 1) (hl : l = encOf ops[k]) (hb : Below base w1 wr) (hs : base ≤ wr.heap.size)
    (ho : OutAt w2 base g (encAll (ops.take k) ++ l)) (hb2 : Below base (wr.alloc o) w2) : PutsRel ops base g w1 (.int .i64 i) w2 := by
  subst hi
  subst hl
  exact ⟨k + 1, hk, by go_num, by rw [encAll_snoc hk]; exact ho, (hb.alloc hs o).trans hb2⟩

theorem blk3 {w : World} {g : Nat} {T : TypeId} {a b d : Value} (h : Blk w g T #[a, b, d]) :
    (w.cell? ⟨g, 0, none⟩ = some a ∧ w.cell? ⟨g, 1, none⟩ = some b ∧ w.cell? ⟨g, 2, none⟩ = some d) ∧ w.frozen? ⟨g, 0, none⟩ = false ∧ w.frozen? ⟨g, 1, none⟩ = false ∧ w.frozen? ⟨g, 2, none⟩ = false :=
  ⟨⟨(h.cell 0).trans rfl, (h.cell 1).trans rfl, (h.cell 2).trans rfl⟩, h.frozen 0, h.frozen 1, h.frozen 2⟩
theorem kept3 {w w' : World} {g r : Nat} {T : TypeId} {a b d : Value} (h : Blk w g T #[a, b, d]) (hg : w.grownBy w' (some r)) (hne : g ≠ r) :
    w'.cell? ⟨g, 0, none⟩ = some a ∧ w'.cell? ⟨g, 1, none⟩ = some b ∧ w'.cell? ⟨g, 2, none⟩ = some d := (blk3 (h.grown hg (by simpa using hne))).1

/-- The takings, of what was put. -/
theorem got_byte (g v : Nat) (r l : List Nat) (q : Int) (w : World) (h : InAt w g l 0) (hl : l = [v] ++ r) (hq : (v : Int) = q) :
    Calls Try.prog 18 #[.pointer (some ⟨g, 0, none⟩)] w (Turns (fun en => en = .returned (.int .u8 q)) g r 0 w) := by
  subst hq; subst hl
  exact byte_any g _ 0 r 0 v w h (fun h => absurd rfl h) (sByte_put v r)
theorem got_truth (g : Nat) (t : Bool) (r l : List Nat) (w : World) (h : InAt w g l 0) (hl : l = [truthN t] ++ r) (h8 : ∀ x ∈ l, x < 256) :
    Calls Try.prog 19 #[.pointer (some ⟨g, 0, none⟩)] w (Turns (fun en => en = .returned (.bool t)) g r 0 w) := by
  subst hl
  exact truth_any g _ 0 r 0 t w h (fun h => absurd rfl h) h8 (sTruth_put t r)
theorem got_short (g v : Nat) (r l : List Nat) (w : World) (h : InAt w g l 0) (hl : l = shortN v ++ r) (h8 : ∀ x ∈ l, x < 256) (hn : l.length ≤ 9223372036854775807) (hv : v < 18446744073709551616) :
    Calls Try.prog 20 #[.pointer (some ⟨g, 0, none⟩), .int .u64 18446744073709551615] w (Turns (fun en => en = .returned (.int .u64 (v : Int))) g r 0 w) := by
  subst hl
  exact inshort_any g _ 0 18446744073709551615 _ r 0 v w h (fun h => absurd rfl h) h8 hn (by omega) (sShort_put v _ r hv (by omega))
theorem got_fixed (g v : Nat) (r l : List Nat) (w : World) (h : InAt w g l 0) (hl : l = bytesN v 8 ++ r) (h8 : ∀ x ∈ l, x < 256) (hv : v < 18446744073709551616) :
    Calls Try.prog 21 #[.pointer (some ⟨g, 0, none⟩)] w (Turns (fun en => en = .returned (.int .u64 (v : Int))) g r 0 w) := by
  subst hl
  exact infixed_any g _ 0 r 0 v w h (fun h => absurd rfl h) h8 (sFixed_put v r hv)
theorem got_text (g : Nat) (s : ByteArray) (r l : List Nat) (w : World) (h : InAt w g l 0) (hl : l = (shortN s.size ++ bytesOfS s) ++ r) (h8 : ∀ x ∈ l, x < 256) (hn : l.length ≤ 9223372036854775807) (hv : s.size ≤ 9223372036854775807) :
    Calls Try.prog 22 #[.pointer (some ⟨g, 0, none⟩), .int .i64 (s.size : Int)] w (Turns (fun en => en = .returned (.string s)) g r 0 w) := by
  subst hl
  have h1 := intext_any g _ 0 s.size _ r 0 (bytesOfS s) w h (fun h => absurd rfl h) h8 hn rfl hv (sText_put (bytesOfS s) r s.size (bytesOfS_len s) (by omega))
  rw [strN_bytesOfS] at h1
  exact h1

theorem gets_step {ops : List OpV} {gi k : Nat} {w4 W w6 : World} {i : Int} (hk : k < ops.length) (hi : i = (k : Int) + 1) (hb : Below w4.heap.size w4 W) (hge : w4.heap.size ≤ gi)
    (hin : InAt w6 gi (encAll (ops.drop (k + 1))) 0) (hg : W.drew.grownBy w6 (some gi)) : GetsRel ops gi w4 (.int .i64 i) w6 := by
  subst hi
  exact ⟨k + 1, hk, by go_num, hin, (below_drew hb).trans (below_only hg hge hb.size)⟩


set_option maxRecDepth 100000 in
set_option maxHeartbeats 2000000 in
theorem walk_short (B : Option Addr) (ops : List OpV) (cb : Nat) (w : World) (hm : ops.length ≤ 60) (hO : SeesOps w B ops) (hT : (encAll ops).length ≤ 2000000) :
    Calls Try.prog 4 #[.slice B ops.length cb] w fun e w' => e = .returned (.bool true) ∧ Below w.heap.size w w' := by
  have HO := hid hO
  have HT := hid hT
  clear hO hT
  go_enter Try.func4, Try.ntmps4
  go_wp2_with fail
  with_reducible refine (anchor_any _).mono ?_
  rintro e w1 ⟨rfl, hw1⟩
  have HW1 := hid hw1
  have HO1 := hid (HO.out.below hw1)
  clear hw1 HO
  go_wp2
  have HR : Hid (PutsRel ops w1.heap.size w1.heap.size w1 (.int .i64 0) (w1.alloc (.cells #[.slice none 0 0] 40))) := hid
    ⟨0, Nat.zero_le _, rfl, out_new w1, (Below.refl _ _).alloc (Nat.le_refl _) _⟩
  go_loopw [20] (fun i wr => PutsRel ops w1.heap.size w1.heap.size w1 i wr) (fun i _ => ops.length - (intOf i).toNat)
  case atStart => exact HR.out
  case round =>
    obtain ⟨k, hk, rfl, hout, hb⟩ := hrel
    by_cases hlt : k < ops.length
    · have HS := hid (fun (l : List Nat) (w2 : World) (hl : l = encOf ops[k]) => puts_step (g := w1.heap.size) (i := (k : Int) + 1) (l := l) (w2 := w2) (o := xbox ops[k]) hlt rfl hl hb hb.size)
      have HOu := hid (hout.alloc (xbox ops[k]))
      have hle : (encAll (ops.take k)).length + (encOf ops[k]).length ≤ 2000000 := by
        have := (encAll_le ops (k + 1)).1
        rw [encAll_snoc hlt, List.length_append] at this
        have := HT.out
        omega
      obtain ⟨bo, oo, rfl, hbl, o0, o1, o2, hN, hZ⟩ := (HO1.out.below (hb.mono (Nat.le_refl _))) k ops[k] (List.getElem?_eq_getElem hlt)
      clear hout hb HR
      generalize ops[k] = x at *
      generalize encAll (ops.take k) = l at *
      obtain ⟨kd, N, tx⟩ := x
      have HOx : Hid (OutAt (wr.alloc (.cells #[.int .i64 kd, .int .u64 (N : Int), .string tx] 31)) w1.heap.size w1.heap.size l) := HOu
      clear HOu
      have hN64 : N < 18446744073709551616 := by have h : (N : Int) ≤ 18446744073709551615 := hN; omega
      have hl1 : l.length + 10 ≤ 140737488355328 := by omega
      by_cases h1 : kd = 1
      · subst h1
        have HL : Hid ([N % 256] = encOf ⟨1, N, tx⟩) := hid rfl
        go_wp2_with fail
        with_reducible refine (outbyte_any w1.heap.size w1.heap.size l (N % 256) _ _ HOx.out (by omega) (by omega)).mono ?_
        rintro en w2 ⟨rfl, ho, hb2⟩
        have HQ := hid (HS.out _ w2 HL.out ho hb2)
        clear ho hb2
        go_wp2
        go_roundw
        case rel => exact HQ.out
        case measure => simp only [intOf]; omega
      by_cases h2 : kd = 2
      · subst h2
        have HL : Hid ([truthN ((N : Int) % 2 == 1)] = encOf ⟨2, N, tx⟩) := hid rfl
        go_wp2_with fail
        with_reducible refine (outtruth_any w1.heap.size w1.heap.size l ((N : Int) % 2 == 1) _ HOx.out (by omega)).mono ?_
        rintro en w2 ⟨rfl, ho, hb2⟩
        have HQ := hid (HS.out _ w2 HL.out ho hb2)
        clear ho hb2
        go_wp2
        go_roundw
        case rel => exact HQ.out
        case measure => simp only [intOf]; omega
      by_cases h3 : kd = 3
      · subst h3
        have HL : Hid (shortN N = encOf ⟨3, N, tx⟩) := hid rfl
        go_wp2_with fail
        with_reducible refine (outshort_any w1.heap.size w1.heap.size l N _ _ HOx.out (by omega) hN64 (by omega)).mono ?_
        rintro en w2 ⟨rfl, ho, hb2⟩
        have HQ := hid (HS.out _ w2 HL.out ho hb2)
        clear ho hb2
        go_wp2
        go_roundw
        case rel => exact HQ.out
        case measure => simp only [intOf]; omega
      by_cases h4 : kd = 4
      · subst h4
        have HL : Hid (bytesN N 8 = encOf ⟨4, N, tx⟩) := hid rfl
        go_wp2_with fail
        with_reducible refine (outfixed_any w1.heap.size w1.heap.size l N _ _ HOx.out (by omega) hN64 (by omega)).mono ?_
        rintro en w2 ⟨rfl, ho, hb2⟩
        have HQ := hid (HS.out _ w2 HL.out ho hb2)
        clear ho hb2
        go_wp2
        go_roundw
        case rel => exact HQ.out
        case measure => simp only [intOf]; omega
      by_cases h5 : kd = 5
      · subst h5
        have HL : Hid (shortN tx.size ++ bytesOfS tx = encOf ⟨5, N, tx⟩) := hid rfl
        have hsz : tx.size ≤ 2000000 := by
          rw [← HL.out, List.length_append, bytesOfS_len] at hle
          omega
        have HAp : Hid (l ++ (shortN tx.size ++ bytesOfS tx) = (l ++ shortN tx.size) ++ bytesOfS tx) := hid (List.append_assoc _ _ _).symm
        go_wp2_with fail
        with_reducible refine (outtext_as w1.heap.size w1.heap.size l (l ++ (shortN tx.size ++ bytesOfS tx)) tx _ HAp.out HOx.out (by omega) (by omega)).mono ?_
        rintro en w2 ⟨rfl, ho, hb2⟩
        have HQ := hid (HS.out _ w2 HL.out ho hb2)
        clear ho hb2
        go_wp2
        go_roundw
        case rel => exact HQ.out
        case measure => simp only [intOf]; omega
      have HQ : Hid (PutsRel ops w1.heap.size w1.heap.size w1 (.int .i64 ((k : Int) + 1)) (wr.alloc (.cells #[.int .i64 kd, .int .u64 (N : Int), .string tx] 31))) := hid (HS.out [] _ (by simp [encOf, h1, h2, h3, h4, h5]) (by rw [List.append_nil]; exact HOx.out) (Below.refl _ _))
      have e1 := eqI h1
      have e2 := eqI h2
      have e3 := eqI h3
      have e4 := eqI h4
      have e5 := eqI h5
      clear h1 h2 h3 h4 h5
      go_wp2
      go_roundw
      case rel => exact HQ.out
      case measure => simp only [intOf]; omega
    · have HE : Hid (encAll (ops.take k) = encAll ops) := hid (by rw [List.take_of_length_le (by omega)])
      rw [HE.out] at hout
      have hbase := hout.base_le
      have HOu := hid hout
      have HB := hid hb
      have hTl := HT.out
      have HT8 := hid (encAll_byte ops)
      have HOps := hid (HO1.out.below (hb.mono (Nat.le_refl _)))
      have HG0 : Hid (encAll (ops.drop 0) = encAll ops) := hid (by rw [List.drop_zero])
      clear hout hb HR HE HT
      go_wp2_with fail
      with_reducible refine (outbytes_any w1.heap.size w1.heap.size (encAll ops) _ HOu.out (by omega)).mono ?_
      rintro en w4 hmk
      obtain ⟨A4, c4, rfl, hn4, hc4, hs4, hb4⟩ := hmk.hands
      have HN4 := hid hn4
      have HS4 := hid hs4
      have HB4 := hid (HB.out.trans (hb4.mono hbase))
      have HO4 := hid (HOu.out.later hb4)
      have HOp4 := hid (HOps.out.below hb4)
      clear hmk hn4 hs4 hb4 HOu HB HOps
      go_wp2_with fail
      with_reducible refine (newin_any A4 (encAll ops) (encAll ops).length c4 _ rfl (by omega) HN4.out HS4.out).mono ?_
      rintro en w5 ⟨gi, rfl, hin, hb5, hge⟩
      have HR : Hid (GetsRel ops gi w4 (.int .i64 0) w5) := hid ⟨0, Nat.zero_le _, rfl, by rw [HG0.out]; exact hin, hb5⟩
      clear hin hb5
      go_wp2
      go_loopw [66] (fun i wr => GetsRel ops gi w4 i wr) (fun i _ => ops.length - (intOf i).toNat)
      case atStart => exact HR.out
      case round =>
        obtain ⟨k2, hk2, rfl, hin, hb⟩ := hrel
        by_cases hlt : k2 < ops.length
        · obtain ⟨bo, oo, rfl, hbl, o0, o1, o2, hN, hZ⟩ := (HOp4.out.below hb) k2 ops[k2] (List.getElem?_eq_getElem hlt)
          have HS := hid (fun (W w6 : World) => gets_step (gi := gi) (W := W) (w6 := w6) (i := (k2 : Int) + 1) (w4 := w4) hlt rfl)
          have HNx := hid (encAll_next hlt)
          have H8 : Hid (∀ y ∈ encAll (ops.drop k2), y < 256) := hid (encAll_byte _)
          have hle2 := (encAll_le ops k2).2
          have HIb := hid (hin.keep ((Below.refl _ _).alloc hin.lt (xbox ops[k2])))
          have HXb := hid (Blk.new wr 31 #[.int .i64 ops[k2].kind, .int .u64 (ops[k2].num : Int), .string ops[k2].text])
          have HBb := hid (hb.alloc hb.size (xbox ops[k2]))
          have hgl := hin.lt
          have hyg : wr.heap.size ≠ gi := by omega
          clear hin HR
          generalize ops[k2] = x at *
          obtain ⟨kd, N, tx⟩ := x
          generalize encAll (ops.drop (k2 + 1)) = R at *
          have HXc : Hid (Blk (wr.alloc (.cells #[.int .i64 kd, .int .u64 (N : Int), .string tx] 31)) wr.heap.size 31 #[.int .i64 kd, .int .u64 (N : Int), .string tx]) := HXb
          have HIc : Hid (InAt (wr.alloc (.cells #[.int .i64 kd, .int .u64 (N : Int), .string tx] 31)) gi (encAll (ops.drop k2)) 0) := HIb
          have HBc : Hid (Below w4.heap.size w4 (wr.alloc (.cells #[.int .i64 kd, .int .u64 (N : Int), .string tx] 31))) := HBb
          have hN64 : N < 18446744073709551616 := by have h : (N : Int) ≤ 18446744073709551615 := hN; omega
          have hge4 : w4.heap.size ≤ gi := hge
          have hl64 : (encAll (ops.drop k2)).length ≤ 9223372036854775807 := by omega
          have hZ' : tx.size ≤ 9223372036854775807 := hZ
          clear HXb HIb HBb hge hZ
          by_cases h1 : kd = 1
          · subst h1
            have HL : Hid (encAll (ops.drop k2) = [N % 256] ++ R) := hid HNx.out
            have hq1 : ((N % 256 : Nat) : Int) = IntKind.u8.wrap (N : Int) := by rw [IntKind.wrap_u8]; omega
            have HQ1 := hid hq1
            clear hq1
            go_wp2
            generalize wr.alloc (.cells #[.int .i64 1, .int .u64 (N : Int), .string tx] 31) = W at *
            generalize wr.heap.size = gy at *
            have o3 := (blk3 HXc.out).1.2.1
            go_region_held3 (fun w' => w'.cell? ⟨gy, 1, none⟩ = some (.int .u64 (N : Int)))
              (first | exact o3 | exact (kept3 (Blk.drew HXc.out) hg6 hyg).2.1 | go_keep)
              ((go_at_call 18; refine (got_byte gi (N % 256) R _ (IntKind.u8.wrap (N : Int)) _ (by exact HIc.out) HL.out HQ1.out).mono ?_; rintro en w6 ⟨rfl, hin6, hg6⟩))
            all_goals
              have HQ := hid (HS.out W w6 HBc.out hge4 hin6 hg6)
              clear hin6 hg6
              go_wp2
              go_roundw
              case rel => exact HQ.out
              case measure => simp only [intOf]; omega
          by_cases h2 : kd = 2
          · subst h2
            have HL : Hid (encAll (ops.drop k2) = [truthN ((N : Int) % 2 == 1)] ++ R) := hid HNx.out
            have hor : ((N : Int) % 2 == 1) = true ∨ ((N : Int) % 2 == 1) = false := by cases ((N : Int) % 2 == 1) <;> simp
            rcases hor with ht | ht
            all_goals
              rw [ht] at HL
              have hm2 : (N : Int).tmod 2 = (N : Int) % 2 := Int.tmod_eq_emod_of_nonneg (by omega)
              go_wp2
              generalize wr.alloc (.cells #[.int .i64 2, .int .u64 (N : Int), .string tx] 31) = W at *
              generalize wr.heap.size = gy at *
              have o3 := (blk3 HXc.out).1.2.1
              go_region_held3 (fun w' => w'.cell? ⟨gy, 1, none⟩ = some (.int .u64 (N : Int)))
                (first | exact o3 | exact (kept3 (Blk.drew HXc.out) hg6 hyg).2.1 | go_keep)
                ((go_at_call 19; refine (got_truth gi _ R _ _ (by exact HIc.out) HL.out H8.out).mono ?_; rintro en w6 ⟨rfl, hin6, hg6⟩))
              all_goals
                have HQ := hid (HS.out W w6 HBc.out hge4 hin6 hg6)
                clear hin6 hg6
                go_wp2
                go_roundw
                case rel => exact HQ.out
                case measure => simp only [intOf]; omega
          by_cases h3 : kd = 3
          · subst h3
            have HL : Hid (encAll (ops.drop k2) = shortN N ++ R) := hid HNx.out
            go_wp2
            generalize wr.alloc (.cells #[.int .i64 3, .int .u64 (N : Int), .string tx] 31) = W at *
            generalize wr.heap.size = gy at *
            have o3 := (blk3 HXc.out).1.2.1
            go_region_held3 (fun w' => w'.cell? ⟨gy, 1, none⟩ = some (.int .u64 (N : Int)))
              (first | exact o3 | exact (kept3 (Blk.drew HXc.out) hg6 hyg).2.1 | go_keep)
              ((go_at_call 20; refine (got_short gi N R _ _ (by exact HIc.out) HL.out H8.out hl64 hN64).mono ?_; rintro en w6 ⟨rfl, hin6, hg6⟩))
            all_goals
              have HQ := hid (HS.out W w6 HBc.out hge4 hin6 hg6)
              clear hin6 hg6
              go_wp2
              go_roundw
              case rel => exact HQ.out
              case measure => simp only [intOf]; omega
          by_cases h4 : kd = 4
          · subst h4
            have HL : Hid (encAll (ops.drop k2) = bytesN N 8 ++ R) := hid HNx.out
            go_wp2
            generalize wr.alloc (.cells #[.int .i64 4, .int .u64 (N : Int), .string tx] 31) = W at *
            generalize wr.heap.size = gy at *
            have o3 := (blk3 HXc.out).1.2.1
            go_region_held3 (fun w' => w'.cell? ⟨gy, 1, none⟩ = some (.int .u64 (N : Int)))
              (first | exact o3 | exact (kept3 (Blk.drew HXc.out) hg6 hyg).2.1 | go_keep)
              ((go_at_call 21; refine (got_fixed gi N R _ _ (by exact HIc.out) HL.out H8.out hN64).mono ?_; rintro en w6 ⟨rfl, hin6, hg6⟩))
            all_goals
              have HQ := hid (HS.out W w6 HBc.out hge4 hin6 hg6)
              clear hin6 hg6
              go_wp2
              go_roundw
              case rel => exact HQ.out
              case measure => simp only [intOf]; omega
          by_cases h5 : kd = 5
          · subst h5
            have HL : Hid (encAll (ops.drop k2) = (shortN tx.size ++ bytesOfS tx) ++ R) := hid HNx.out
            go_wp2
            generalize wr.alloc (.cells #[.int .i64 5, .int .u64 (N : Int), .string tx] 31) = W at *
            generalize wr.heap.size = gy at *
            have o3 := (blk3 HXc.out).1.2.2
            go_region_held3 (fun w' => w'.cell? ⟨gy, 2, none⟩ = some (.string tx))
              (first | exact o3 | exact (kept3 (Blk.drew HXc.out) hg6 hyg).2.2 | go_keep)
              ((go_at_call 22; refine (got_text gi tx R _ _ (by exact HIc.out) HL.out H8.out hl64 hZ').mono ?_; rintro en w6 ⟨rfl, hin6, hg6⟩))
            all_goals
              have HQ := hid (HS.out W w6 HBc.out hge4 hin6 hg6)
              clear hin6 hg6
              go_wp2
              go_roundw
              case rel => exact HQ.out
              case measure => simp only [intOf]; omega
          have HQ : Hid (GetsRel ops gi w4 (.int .i64 ((k2 : Int) + 1)) (wr.alloc (.cells #[.int .i64 kd, .int .u64 (N : Int), .string tx] 31))) := hid (HS.out _ _ HBc.out hge4 (by have h := HIc.out; rw [HNx.out] at h; simpa [encOf, h1, h2, h3, h4, h5] using h) ⟨rfl, rfl, rfl, Nat.le_refl _, fun _ _ _ => rfl⟩)
          have e1 := eqI h1
          have e2 := eqI h2
          have e3 := eqI h3
          have e4 := eqI h4
          have e5 := eqI h5
          clear h1 h2 h3 h4 h5
          go_wp2
          go_roundw
          case rel => exact HQ.out
          case measure => simp only [intOf]; omega
        · have HI6 : Hid (InAt wr gi [] 0) := hid (by rw [List.drop_of_length_le (by omega)] at hin; exact hin)
          have HO6 := hid (HO4.out.later hb)
          have HS6 := hid (HS4.out.below hb)
          have HB6 := hid (HB4.out.trans (hb.mono HB4.out.size))
          have hs6 := HB6.out.size
          clear hin hb HR HO4 HS4 HB4
          go_wp2_with fail
          with_reducible refine (end_any gi [] 0 _ HI6.out).mono ?_
          rintro en w7 ⟨rfl, rfl⟩
          rw [show endE [] 0 = 0 from rfl]
          go_wp2_with fail
          with_reducible refine (outbytes_any w1.heap.size w1.heap.size (encAll ops) _ HO6.out (by omega)).mono ?_
          rintro en w8 hmk
          obtain ⟨A8, c8, rfl, _, _, hs8, hb8⟩ := hmk.hands
          have HS8 := hid hs8
          have HS9 := hid (HS6.out.below hb8)
          have HB8 := hid (HB6.out.trans (hb8.mono hs6))
          have hs8' := HB8.out.size
          clear hmk hs8 hb8
          go_wp2_with fail
          with_reducible refine (same_as A4 A8 (encAll ops) _ c4 c8 _ (by omega) rfl HS9.out HS8.out).mono ?_
          rintro en w9 ⟨rfl, hb9⟩
          have HB9 := hid (HB8.out.trans (hb9.mono hs8'))
          clear hb9
          go_wp2
          go_ret
          exact ⟨rfl, HW1.out.trans (HB9.out.mono HW1.out.size)⟩

/-- What the bound gives. -/
theorem texts_bulk {H : Type} (ops : List OpV) : textsOf ops ≤ Rows.uptoBulkAll (ops.map (opData (H := H))) := by
  induction ops with
  | nil => simp [textsOf]
  | cons x r ih =>
    have e2 : textsOf (x :: r) = x.text.size + textsOf r := by simp [textsOf]
    have e3 : x.text.data.toList.length = x.text.size := by rw [Array.length_toList]; rfl
    rw [e2, List.map_cons]
    simp only [Rows.uptoBulkAll, Rows.uptoBulk, opData]
    omega
theorem total {H : Type} {W : World} {A : Option Addr} {ops : List OpV} {d : DataW H} (hO : SeesOps W A ops) (hd : ops = [] ∨ ∃ sp, d = .slice (ops.map opData) sp) (hk : Rows.uptoSmall H [d] = true) (hm : ops.length ≤ 60) : (encAll ops).length ≤ 2000000 := by
  have hb : ∀ x ∈ ops, (x.num : Int) ≤ 18446744073709551615 ∧ x.text.size ≤ 9223372036854775807 := by
    intro x hx
    obtain ⟨j, hj, rfl⟩ := List.mem_iff_getElem.1 hx
    obtain ⟨_, _, _, _, _, _, _, h1, h2⟩ := hO j ops[j] (List.getElem?_eq_getElem hj)
    exact ⟨h1, h2⟩
  have h1 := encAll_len ops hb
  have h2 : textsOf ops ≤ 1048576 := by
    rcases hd with rfl | ⟨sp, rfl⟩
    · simp [textsOf]
    · have h := texts_bulk (H := H) ops
      have h3 : Rows.uptoBulkAll [DataW.slice (ops.map (opData (H := H))) sp] ≤ 1048576 := of_decide_eq_true hk
      simp only [Rows.uptoBulkAll, Rows.uptoBulk] at h3
      omega
  omega

/-- The Go text returns true. -/
theorem walk (B : Option Addr) (ops : List OpV) (cb : Nat) (w : World) (hO : SeesOps w B ops) (hT : ops.length ≤ 60 → (encAll ops).length ≤ 2000000) :
    Calls Try.prog 4 #[.slice B ops.length cb] w fun e w' => e = .returned (.bool true) ∧ Below w.heap.size w w' := by
  by_cases h : 60 < ops.length
  · exact walk_long B ops.length cb w h
  · exact walk_short B ops cb w (by omega) hO (hT (by omega))

theorem own : ownKnob Try.prog.godebug = none := by kernel_rfl
theorem laidOut : laidOutB Try.prog = true := by kernel_rfl
theorem cells_op : Try.prog.cellsOf 31 = 3 := by kernel_rfl

theorem contract (H : Type) (enc : TypeId × Value → H) (W : World) (base : Nat) (args : Array Value) (ds gs : List (DataW H)) (before : List MemPlace)
    (hval : ∀ (j : Nat) t v, Try.f4.params[j]? = some t → args[j]? = some v → Value.okWide Try.prog W .any base t v)
    (hW : DataW.Whole enc Try.prog Try.f4.params.toList Rows.wirePutsSpec.vars false W args.toList ds gs before) (hk : Rows.uptoSmall H (ds ++ gs) = true) :
    Calls Try.prog 4 args W fun e W' => ∃ v, e = .returned v ∧ Rows.wirePutsSpec.post enc Try.prog Try.f4 false true false false W args v W' := by
  have hW' := hW
  obtain ⟨p, q, hA0, hV, rfl, _, _⟩ := hW
  have hA : DataW.TrodAll enc Try.prog W 0 (fun _ => true) true Try.f4.params.toList args.toList ds p := hA0
  rw [Try.params4] at hA hval
  have hlt : ∀ x ∈ p, x.block < W.heap.size := fun x hx => by simpa using hW'.lt x (List.mem_append_left _ hx)
  obtain ⟨v0, vs0, d0, ds0, p0, q0, hargs, rfl, rfl, g0, r0⟩ := trodAll_cons hA
  obtain ⟨rfl, rfl, rfl⟩ := trodAll_nil r0
  obtain rfl : args = #[v0] := by cases args; simp_all
  obtain ⟨rfl, rfl⟩ := trodVars_none hV
  obtain ⟨A1, c1, ops, rfl, hs1, hd1⟩ := open_ops Try.underlying23 Try.underlying31 (by kernel_rfl) cells_op Try.underlying3 Try.underlying29 Try.underlying9 (hval 0 23 v0 rfl rfl) g0 (fun x hx => hlt x <| List.mem_append_left _ hx)
  rw [List.append_nil] at hk
  refine (walk A1 ops c1 W hs1 (fun hm => total hs1 hd1 hk hm)).mono fun e W' ⟨he, hg⟩ => ?_
  subst he
  exact ⟨_, rfl, law_post laidOut hW' (by kernel_rfl) rfl rfl Try.underlying4 rfl hg⟩

set_option maxRecDepth 100000 in
theorem lifted (os : Os) (started : os.Started) (H : Type) (enc : TypeId × Value → H) (F : Stop.Interp) :
    ReturnsInHanded {} Try.checked os 4 .any ((Rows.OpenSpec.upto Rows.wirePutsSpec).pre6 enc Try.prog Try.f4 Rows.wirePutsUptoRow.domain false) (((Rows.OpenSpec.upto Rows.wirePutsSpec).at F).post enc Try.prog Try.f4 false true false false) := by
  refine returnsInHanded_of_cond (C := Try.checked) (s := Rows.OpenSpec.upto Rows.wirePutsSpec) (k := Rows.uptoSmall) rfl own started (by kernel_rfl) Try.func4
    (OpenSpec.witness (enc := enc) (C := Try.checked) (s := Rows.OpenSpec.upto Rows.wirePutsSpec) (k := Rows.uptoSmall) rfl false ⟨#[], #[.slice none 0 0], []⟩ 8 (by kernel_rfl) (by kernel_rfl) (by kernel_rfl)
      (x := ([.nil], [], [])) (by kernel_rfl) rfl (by kernel_rfl)) ?_
  intro W base args ds gs before hval hW _ hk _
  exact contract H enc W base args ds gs before hval hW hk

theorem proved : Rows.WirePutsUptoSaid :=
  OpenClaim.holds_of_cond 4 Try.f4 rfl rfl rfl rfl rfl rfl rfl ⟨rfl, rfl, rfl, rfl, rfl⟩ rfl rfl rfl rfl rfl (by kernel_rfl) Try.func4 (by kernel_rfl)
    (of_decide_eq_true (by kernel_rfl)) (by unfold Func.isWrapper; first | (rw [if_pos (by decide +kernel)]; kernel_rfl) | (rw [if_neg (by decide +kernel)]; exact ⟨rfl, rfl⟩))
    (fun os started H enc _ F => lifted os started H enc F)
#print axioms proved

end Go.Proofs.Ytjefhnhlkhnogaa.wirePuts
