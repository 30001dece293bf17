/-
  A command's text, as the document has it, and that it is read again. No program, but a string's bytes.
-/
import Derived.Test.YtohffiehmmcgbaaGreatDoorXA
import Derived.Lib.IndexBytes
import Derived.Test.YtohffiehmmcgbaaGreatDoorXE
import Derived.Test.YtohffiehmmcgbaaGreatDoorXShelf2
import Derived.Lib.ItoaMem
import Derived.Lib.AppendIntMem
import Derived.Lib.ItoaWalk
import Derived.BigCall
import Derived.BigGuard
import Derived.Lib.Strings
import Derived.RegionTactic
import Derived.LoopTactic
namespace Go.Proofs.YtohffiehmmcgbaaGreatDoor
open Go.Lib
set_option linter.unusedVariables false
set_option linter.unusedSimpArgs false
def cutC (c : UInt8) : List UInt8 → List UInt8 × List UInt8
  | [] => ([], [])
  | d :: l => if d = c then ([], l) else (d :: (cutC c l).1, (cutC c l).2)
theorem cutC_app (c : UInt8) : ∀ (x y : List UInt8), (∀ d ∈ x, d ≠ c) → cutC c (x ++ c :: y) = (x, y)
  | [], y, _ => by simp [cutC]
  | d :: x, y, h => by
    have h1 := h d (by simp)
    simp only [List.cons_append, cutC, if_neg h1]
    rw [cutC_app c x y (fun e he => h e (List.mem_cons_of_mem _ he))]
theorem cutC_all (c : UInt8) : ∀ (x : List UInt8), (∀ d ∈ x, d ≠ c) → cutC c x = (x, [])
  | [], _ => rfl
  | d :: x, h => by
    have h1 := h d (by simp)
    simp only [cutC, if_neg h1]
    rw [cutC_all c x (fun e he => h e (List.mem_cons_of_mem _ he))]
theorem cutC_index (c : UInt8) : ∀ l : List UInt8, (indexByte l c = -1 ∧ cutC c l = (l, [])) ∨ ∃ k : Nat, indexByte l c = (k : Int) ∧ k < l.length ∧ cutC c l = (l.take k, l.drop (k + 1))
  | [] => .inl ⟨rfl, rfl⟩
  | d :: l => by
    by_cases hc : d = c
    · subst hc
      exact .inr ⟨0, by simp [indexByte], by simp, by simp [cutC]⟩
    · have hb : (d == c) = false := by simpa using hc
      rcases cutC_index c l with ⟨h1, h2⟩ | ⟨k, h1, h2, h3⟩
      · refine .inl ⟨?_, by simp only [cutC, if_neg hc, h2]⟩
        simp only [indexByte, hb, h1]; decide
      · refine .inr ⟨k + 1, ?_, by simp; omega, by simp only [cutC, if_neg hc, h3]; rfl⟩
        have hk : ((k : Int) == -1) = false := by simp
        simp [indexByte, hb, h1, hk]
theorem cutC_len (c : UInt8) : ∀ l : List UInt8, (cutC c l).1.length ≤ l.length ∧ (cutC c l).2.length ≤ l.length
  | [] => ⟨Nat.le_refl _, Nat.le_refl _⟩
  | d :: l => by
    have h := cutC_len c l
    unfold cutC
    split
    · exact ⟨by simp, by simp⟩
    · exact ⟨by simp; exact h.1, by simp; omega⟩
def nameL (k : Int) : List UInt8 :=
  if k = 0 then [110, 111, 111, 112] else if k = 1 then [111, 112, 101, 110] else if k = 2 then [99, 108, 111, 115, 101] else if k = 3 then [107, 101, 101, 112] else if k = 4 then [97, 99, 113, 117, 105, 114, 101]
  else if k = 5 then [116, 114, 121] else if k = 6 then [114, 101, 108, 101, 97, 115, 101] else if k = 7 then [99, 104, 101, 99, 107] else if k = 8 then [101, 120, 112, 105, 114, 101] else []
def kindL (l : List UInt8) : Int :=
  if l = nameL 0 then 0 else if l = nameL 1 then 1 else if l = nameL 2 then 2 else if l = nameL 3 then 3 else if l = nameL 4 then 4 else if l = nameL 5 then 5 else if l = nameL 6 then 6 else if l = nameL 7 then 7 else if l = nameL 8 then 8 else -1
theorem kind_name (k : Int) (h : 0 ≤ k ∧ k ≤ 8) : kindL (nameL k) = k := by
  have : k = 0 ∨ k = 1 ∨ k = 2 ∨ k = 3 ∨ k = 4 ∨ k = 5 ∨ k = 6 ∨ k = 7 ∨ k = 8 := by omega
  rcases this with rfl | rfl | rfl | rfl | rfl | rfl | rfl | rfl | rfl <;> decide
def wordL (n v : List UInt8) : List UInt8 := 32 :: (n ++ 61 :: v)
def nNum : List UInt8 := [110, 117, 109]
def nFoot : List UInt8 := [102, 111, 111, 116]
def nReq : List UInt8 := [114, 101, 113, 117, 101, 115, 116]
def nPath : List UInt8 := [112, 97, 116, 104]
def nMode : List UInt8 := [109, 111, 100, 101]
def nN : List UInt8 := [110]
def nTime : List UInt8 := [116, 105, 109, 101]
def t0 (c : K) : List UInt8 := if h0 c.kind then wordL nNum (decDigits c.num.toNat) ++ wordL nFoot (L c.foot) else []
def t1 (c : K) : List UInt8 := if h1 c.kind then wordL nReq (decDigits c.req.toNat) else []
def t2 (c : K) : List UInt8 := if h2 c.kind then wordL nPath (L c.path) else []
def t3 (c : K) : List UInt8 := if h3 c.kind then wordL nMode (decDigits c.mode.toNat) else []
def t4 (c : K) : List UInt8 := if h4 c.kind then wordL nN (decDigits c.n.toNat) else []
def t5 (c : K) : List UInt8 := if h5 c.kind then wordL nTime (decDigits c.time.toNat) else []
def txt (c : K) : List UInt8 := nameL c.kind ++ (t0 c ++ (t1 c ++ (t2 c ++ (t3 c ++ (t4 c ++ t5 c)))))
def valL (r : List UInt8) : List UInt8 := (cutC 61 (cutC 32 r).1).2
def resL (r : List UInt8) : List UInt8 := (cutC 32 r).2
def readL (l : List UInt8) : Nat := match parseUintB 64 l with
  | .ok u => u
  | .range => 18446744073709551615
  | _ => 0
def mk (l : List UInt8) : ByteArray := ⟨l.toArray⟩
theorem L_mk7 (l : List UInt8) : L (mk l) = l := by simp [L, mk]
theorem mk_L (s : ByteArray) : mk (L s) = s := L_inj.1 (L_mk7 _)
def gOf (l : List UInt8) : K :=
  let k := kindL (cutC 32 l).1
  let r0 := (cutC 32 l).2
  let r1 := if h0 k then resL (resL r0) else r0
  let r2 := if h1 k then resL r1 else r1
  let r3 := if h2 k then resL r2 else r2
  let r4 := if h3 k then resL r3 else r3
  let r5 := if h4 k then resL r4 else r4
  ⟨k, if h0 k then readL (valL r0) else 0, if h0 k then mk (valL (resL r0)) else ⟨#[]⟩, if h1 k then readL (valL r1) else 0, if h2 k then mk (valL r2) else ⟨#[]⟩,
    if h3 k then IntKind.i64.wrap (readL (valL r3)) else 0, if h4 k then readL (valL r4) else 0, if h5 k then IntKind.i64.wrap (readL (valL r5)) else 0⟩
def Tail (y : List UInt8) : Prop := y = [] ∨ ∃ r, y = 32 :: r
theorem cut_tail {x y : List UInt8} (hx : ∀ d ∈ x, d ≠ 32) (hy : Tail y) : cutC 32 (x ++ y) = (x, y.drop 1) := by
  rcases hy with rfl | ⟨r, rfl⟩
  · rw [List.append_nil]; exact cutC_all 32 x hx
  · exact cutC_app 32 x r hx
theorem word_val {n v y : List UInt8} (hn : ∀ d ∈ n, d ≠ 32 ∧ d ≠ 61) (hv : ∀ d ∈ v, d ≠ 32) (hy : Tail y) : valL ((wordL n v ++ y).drop 1) = v ∧ resL ((wordL n v ++ y).drop 1) = y.drop 1 := by
  have e : (wordL n v ++ y).drop 1 = (n ++ 61 :: v) ++ y := rfl
  have h : ∀ d ∈ n ++ 61 :: v, d ≠ 32 := by
    intro d hd
    rcases List.mem_append.1 hd with h | h
    · exact (hn d h).1
    · rcases List.mem_cons.1 h with rfl | h
      · decide
      · exact hv d h
  unfold valL resL
  rw [e, cut_tail h hy]
  exact ⟨by rw [cutC_app 61 n v (fun d hd => (hn d hd).2)], rfl⟩
theorem tail_word (n v y : List UInt8) : Tail (wordL n v ++ y) := .inr ⟨_, rfl⟩
theorem dec_no32 (u : Nat) : ∀ d ∈ decDigits u, d ≠ 32 := by
  intro d hd he
  subst he
  have := (dec_digits u _ hd).1
  exact absurd this (by decide)
theorem read_dec (u : Nat) (h : u < 18446744073709551616) : readL (decDigits u) = u := by
  unfold readL
  rw [parseUintB_64]
  have hm : parseMag (decDigits u) = .ok u := by unfold parseMag; rw [if_neg (dec_ne u), parse_dec u h]
  rw [hm]
theorem letter_no32 {c : UInt8} (h : letter c = true) : c ≠ 32 := by rintro rfl; exact absurd h (by decide)
theorem join_mem : ∀ (xs : List (List UInt8)) (c : UInt8), c ∈ join xs → c = 47 ∨ ∃ x ∈ xs, c ∈ x
  | [], c, h => by simp [join] at h
  | [x], c, h => .inr ⟨x, by simp, by simpa [join] using h⟩
  | x :: y :: r, c, h => by
    rw [join_cons (by simp)] at h
    rcases List.mem_append.1 h with h | h
    · exact .inr ⟨x, by simp, h⟩
    · rcases List.mem_cons.1 h with rfl | h
      · exact .inl rfl
      · rcases join_mem (y :: r) c h with h | ⟨z, hz, hc⟩
        · exact .inl h
        · exact .inr ⟨z, List.mem_cons_of_mem _ hz, hc⟩
theorem right_no32 {s : List UInt8} (h : right s = true) : ∀ d ∈ s, d ≠ 32 := by
  intro d hd
  rw [← join_pieces s] at hd
  have hp := (right_iff.1 h).2.1
  rcases join_mem _ d hd with rfl | ⟨x, hx, hc⟩
  · decide
  · have := isPart_iff.1 (hp x hx)
    exact letter_no32 (List.all_eq_true.1 this.2 d hc)
theorem gOf_txt (c : K) (ho : okK c) (hr : rightK c = true) (hin : (0 ≤ c.kind ∧ c.kind ≤ 8) ∧ (0 ≤ c.mode ∧ c.mode ≤ 2) ∧ (0 ≤ c.time ∧ c.time ≤ 1099511627776)) : gOf (txt c) = c := by
  obtain ⟨a1, a2, a3⟩ := hin
  obtain ⟨o1, o2, o3, _⟩ := ho
  have hc : c = own c := by
    unfold rightK at hr
    simp only [Bool.and_eq_true, decide_eq_true_eq] at hr
    exact hr.1.2
  have hi : areIn c = true := by
    unfold rightK at hr
    simp only [Bool.and_eq_true] at hr
    exact hr.2
  unfold areIn at hi
  simp only [Bool.and_eq_true] at hi
  have i0 := hi.1.1.1.1.1
  have i2 := hi.1.1.1.2
  unfold in0 at i0
  unfold in2 at i2
  obtain ⟨k, u, f, q, s, m, n, t⟩ := c
  simp only at a1 a2 a3 o1 o2 o3 i0 i2
  have n1 : ∀ d ∈ nameL k, d ≠ 32 := by
    have : k = 0 ∨ k = 1 ∨ k = 2 ∨ k = 3 ∨ k = 4 ∨ k = 5 ∨ k = 6 ∨ k = 7 ∨ k = 8 := by omega
    rcases this with rfl | rfl | rfl | rfl | rfl | rfl | rfl | rfl | rfl <;> decide
  have w1 : ∀ d ∈ nNum, d ≠ 32 ∧ d ≠ 61 := by decide
  have w2 : ∀ d ∈ nFoot, d ≠ 32 ∧ d ≠ 61 := by decide
  have w3 : ∀ d ∈ nReq, d ≠ 32 ∧ d ≠ 61 := by decide
  have w4 : ∀ d ∈ nPath, d ≠ 32 ∧ d ≠ 61 := by decide
  have w5 : ∀ d ∈ nMode, d ≠ 32 ∧ d ≠ 61 := by decide
  have w6 : ∀ d ∈ nN, d ≠ 32 ∧ d ≠ 61 := by decide
  have w7 : ∀ d ∈ nTime, d ≠ 32 ∧ d ≠ 61 := by decide
  have wm : IntKind.i64.wrap m = m := by rw [IntKind.wrap_i64]; omega
  have wt : IntKind.i64.wrap t = t := by rw [IntKind.wrap_i64]; omega
  have cu : ((u.toNat : Nat) : Int) = u := by omega
  have cq : ((q.toNat : Nat) : Int) = q := by omega
  have cm : ((m.toNat : Nat) : Int) = m := by omega
  have cn : ((n.toNat : Nat) : Int) = n := by omega
  have ct : ((t.toNat : Nat) : Int) = t := by omega
  have ru := read_dec u.toNat (by omega)
  have rq := read_dec q.toNat (by omega)
  have rm := read_dec m.toNat (by omega)
  have rn := read_dec n.toNat (by omega)
  have rt := read_dec t.toNat (by omega)
  rcases sig_cases k with ⟨g, _⟩ | ⟨_, g⟩ | ⟨_, g⟩ | ⟨_, g⟩ | ⟨_, g⟩ | ⟨_, g⟩ | ⟨_, g⟩ | ⟨_, g⟩
  · obtain ⟨s0, s1, s2, s3, s4, s5⟩ := g
    simp only [own, s0, s1, s2, s3, s4, s5, if_true, if_false, Bool.false_eq_true, K.mk.injEq, true_and, and_true] at hc
    have e : txt ⟨k, u, f, q, s, m, n, t⟩ = nameL k ++ [] := by simp [txt, t0, t1, t2, t3, t4, t5, s0, s1, s2, s3, s4, s5, List.append_assoc]
    have hc0 : cutC 32 (nameL k ++ []) = (nameL k, ([]).drop 1) := cut_tail n1 (.inl rfl)
    unfold gOf
    rw [e, hc0]
    simp only [kind_name k a1, s0, s1, s2, s3, s4, s5, if_true, if_false, Bool.false_eq_true]
    simp only [K.mk.injEq, ru, rq, rm, rn, rt, cu, cq, cm, cn, ct, wm, wt, mk_L]
    simp [hc]
  · obtain ⟨s0, s1, s2, s3, s4, s5⟩ := g
    simp only [own, s0, s1, s2, s3, s4, s5, if_true, if_false, Bool.false_eq_true, K.mk.injEq, true_and, and_true] at hc
    have p0 := right_no32 (show right (L f) = true by simpa [s0] using i0)
    have e : txt ⟨k, u, f, q, s, m, n, t⟩ = nameL k ++ (wordL nNum (decDigits u.toNat) ++ (wordL nFoot (L f) ++ (wordL nReq (decDigits q.toNat) ++ (wordL nN (decDigits n.toNat) ++ (wordL nTime (decDigits t.toNat) ++ []))))) := by simp [txt, t0, t1, t2, t3, t4, t5, s0, s1, s2, s3, s4, s5, List.append_assoc]
    have hc0 : cutC 32 (nameL k ++ (wordL nNum (decDigits u.toNat) ++ (wordL nFoot (L f) ++ (wordL nReq (decDigits q.toNat) ++ (wordL nN (decDigits n.toNat) ++ (wordL nTime (decDigits t.toNat) ++ [])))))) = (nameL k, ((wordL nNum (decDigits u.toNat) ++ (wordL nFoot (L f) ++ (wordL nReq (decDigits q.toNat) ++ (wordL nN (decDigits n.toNat) ++ (wordL nTime (decDigits t.toNat) ++ [])))))).drop 1) := cut_tail n1 (tail_word _ _ _)
    obtain ⟨v0, r0⟩ := word_val (n := nNum) (v := (decDigits u.toNat)) (y := (wordL nFoot (L f) ++ (wordL nReq (decDigits q.toNat) ++ (wordL nN (decDigits n.toNat) ++ (wordL nTime (decDigits t.toNat) ++ []))))) w1 (dec_no32 _) (tail_word _ _ _)
    obtain ⟨v1, r1⟩ := word_val (n := nFoot) (v := (L f)) (y := (wordL nReq (decDigits q.toNat) ++ (wordL nN (decDigits n.toNat) ++ (wordL nTime (decDigits t.toNat) ++ [])))) w2 (p0) (tail_word _ _ _)
    obtain ⟨v2, r2⟩ := word_val (n := nReq) (v := (decDigits q.toNat)) (y := (wordL nN (decDigits n.toNat) ++ (wordL nTime (decDigits t.toNat) ++ []))) w3 (dec_no32 _) (tail_word _ _ _)
    obtain ⟨v3, r3⟩ := word_val (n := nN) (v := (decDigits n.toNat)) (y := (wordL nTime (decDigits t.toNat) ++ [])) w6 (dec_no32 _) (tail_word _ _ _)
    obtain ⟨v4, r4⟩ := word_val (n := nTime) (v := (decDigits t.toNat)) (y := []) w7 (dec_no32 _) (.inl rfl)
    unfold gOf
    rw [e, hc0]
    simp only [kind_name k a1, s0, s1, s2, s3, s4, s5, if_true, if_false, Bool.false_eq_true, v0, r0, v1, r1, v2, r2, v3, r3, v4, r4]
    simp only [K.mk.injEq, ru, rq, rm, rn, rt, cu, cq, cm, cn, ct, wm, wt, mk_L]
    simp [hc]
  · obtain ⟨s0, s1, s2, s3, s4, s5⟩ := g
    simp only [own, s0, s1, s2, s3, s4, s5, if_true, if_false, Bool.false_eq_true, K.mk.injEq, true_and, and_true] at hc
    have p0 := right_no32 (show right (L f) = true by simpa [s0] using i0)
    have e : txt ⟨k, u, f, q, s, m, n, t⟩ = nameL k ++ (wordL nNum (decDigits u.toNat) ++ (wordL nFoot (L f) ++ (wordL nReq (decDigits q.toNat) ++ []))) := by simp [txt, t0, t1, t2, t3, t4, t5, s0, s1, s2, s3, s4, s5, List.append_assoc]
    have hc0 : cutC 32 (nameL k ++ (wordL nNum (decDigits u.toNat) ++ (wordL nFoot (L f) ++ (wordL nReq (decDigits q.toNat) ++ [])))) = (nameL k, ((wordL nNum (decDigits u.toNat) ++ (wordL nFoot (L f) ++ (wordL nReq (decDigits q.toNat) ++ [])))).drop 1) := cut_tail n1 (tail_word _ _ _)
    obtain ⟨v0, r0⟩ := word_val (n := nNum) (v := (decDigits u.toNat)) (y := (wordL nFoot (L f) ++ (wordL nReq (decDigits q.toNat) ++ []))) w1 (dec_no32 _) (tail_word _ _ _)
    obtain ⟨v1, r1⟩ := word_val (n := nFoot) (v := (L f)) (y := (wordL nReq (decDigits q.toNat) ++ [])) w2 (p0) (tail_word _ _ _)
    obtain ⟨v2, r2⟩ := word_val (n := nReq) (v := (decDigits q.toNat)) (y := []) w3 (dec_no32 _) (.inl rfl)
    unfold gOf
    rw [e, hc0]
    simp only [kind_name k a1, s0, s1, s2, s3, s4, s5, if_true, if_false, Bool.false_eq_true, v0, r0, v1, r1, v2, r2]
    simp only [K.mk.injEq, ru, rq, rm, rn, rt, cu, cq, cm, cn, ct, wm, wt, mk_L]
    simp [hc]
  · obtain ⟨s0, s1, s2, s3, s4, s5⟩ := g
    simp only [own, s0, s1, s2, s3, s4, s5, if_true, if_false, Bool.false_eq_true, K.mk.injEq, true_and, and_true] at hc
    have p0 := right_no32 (show right (L f) = true by simpa [s0] using i0)
    have e : txt ⟨k, u, f, q, s, m, n, t⟩ = nameL k ++ (wordL nNum (decDigits u.toNat) ++ (wordL nFoot (L f) ++ (wordL nReq (decDigits q.toNat) ++ (wordL nTime (decDigits t.toNat) ++ [])))) := by simp [txt, t0, t1, t2, t3, t4, t5, s0, s1, s2, s3, s4, s5, List.append_assoc]
    have hc0 : cutC 32 (nameL k ++ (wordL nNum (decDigits u.toNat) ++ (wordL nFoot (L f) ++ (wordL nReq (decDigits q.toNat) ++ (wordL nTime (decDigits t.toNat) ++ []))))) = (nameL k, ((wordL nNum (decDigits u.toNat) ++ (wordL nFoot (L f) ++ (wordL nReq (decDigits q.toNat) ++ (wordL nTime (decDigits t.toNat) ++ []))))).drop 1) := cut_tail n1 (tail_word _ _ _)
    obtain ⟨v0, r0⟩ := word_val (n := nNum) (v := (decDigits u.toNat)) (y := (wordL nFoot (L f) ++ (wordL nReq (decDigits q.toNat) ++ (wordL nTime (decDigits t.toNat) ++ [])))) w1 (dec_no32 _) (tail_word _ _ _)
    obtain ⟨v1, r1⟩ := word_val (n := nFoot) (v := (L f)) (y := (wordL nReq (decDigits q.toNat) ++ (wordL nTime (decDigits t.toNat) ++ []))) w2 (p0) (tail_word _ _ _)
    obtain ⟨v2, r2⟩ := word_val (n := nReq) (v := (decDigits q.toNat)) (y := (wordL nTime (decDigits t.toNat) ++ [])) w3 (dec_no32 _) (tail_word _ _ _)
    obtain ⟨v3, r3⟩ := word_val (n := nTime) (v := (decDigits t.toNat)) (y := []) w7 (dec_no32 _) (.inl rfl)
    unfold gOf
    rw [e, hc0]
    simp only [kind_name k a1, s0, s1, s2, s3, s4, s5, if_true, if_false, Bool.false_eq_true, v0, r0, v1, r1, v2, r2, v3, r3]
    simp only [K.mk.injEq, ru, rq, rm, rn, rt, cu, cq, cm, cn, ct, wm, wt, mk_L]
    simp [hc]
  · obtain ⟨s0, s1, s2, s3, s4, s5⟩ := g
    simp only [own, s0, s1, s2, s3, s4, s5, if_true, if_false, Bool.false_eq_true, K.mk.injEq, true_and, and_true] at hc
    have p0 := right_no32 (show right (L f) = true by simpa [s0] using i0)
    have p2 := right_no32 (show right (L s) = true by simpa [s2] using i2)
    have e : txt ⟨k, u, f, q, s, m, n, t⟩ = nameL k ++ (wordL nNum (decDigits u.toNat) ++ (wordL nFoot (L f) ++ (wordL nReq (decDigits q.toNat) ++ (wordL nPath (L s) ++ (wordL nMode (decDigits m.toNat) ++ []))))) := by simp [txt, t0, t1, t2, t3, t4, t5, s0, s1, s2, s3, s4, s5, List.append_assoc]
    have hc0 : cutC 32 (nameL k ++ (wordL nNum (decDigits u.toNat) ++ (wordL nFoot (L f) ++ (wordL nReq (decDigits q.toNat) ++ (wordL nPath (L s) ++ (wordL nMode (decDigits m.toNat) ++ [])))))) = (nameL k, ((wordL nNum (decDigits u.toNat) ++ (wordL nFoot (L f) ++ (wordL nReq (decDigits q.toNat) ++ (wordL nPath (L s) ++ (wordL nMode (decDigits m.toNat) ++ [])))))).drop 1) := cut_tail n1 (tail_word _ _ _)
    obtain ⟨v0, r0⟩ := word_val (n := nNum) (v := (decDigits u.toNat)) (y := (wordL nFoot (L f) ++ (wordL nReq (decDigits q.toNat) ++ (wordL nPath (L s) ++ (wordL nMode (decDigits m.toNat) ++ []))))) w1 (dec_no32 _) (tail_word _ _ _)
    obtain ⟨v1, r1⟩ := word_val (n := nFoot) (v := (L f)) (y := (wordL nReq (decDigits q.toNat) ++ (wordL nPath (L s) ++ (wordL nMode (decDigits m.toNat) ++ [])))) w2 (p0) (tail_word _ _ _)
    obtain ⟨v2, r2⟩ := word_val (n := nReq) (v := (decDigits q.toNat)) (y := (wordL nPath (L s) ++ (wordL nMode (decDigits m.toNat) ++ []))) w3 (dec_no32 _) (tail_word _ _ _)
    obtain ⟨v3, r3⟩ := word_val (n := nPath) (v := (L s)) (y := (wordL nMode (decDigits m.toNat) ++ [])) w4 (p2) (tail_word _ _ _)
    obtain ⟨v4, r4⟩ := word_val (n := nMode) (v := (decDigits m.toNat)) (y := []) w5 (dec_no32 _) (.inl rfl)
    unfold gOf
    rw [e, hc0]
    simp only [kind_name k a1, s0, s1, s2, s3, s4, s5, if_true, if_false, Bool.false_eq_true, v0, r0, v1, r1, v2, r2, v3, r3, v4, r4]
    simp only [K.mk.injEq, ru, rq, rm, rn, rt, cu, cq, cm, cn, ct, wm, wt, mk_L]
    simp [hc]
  · obtain ⟨s0, s1, s2, s3, s4, s5⟩ := g
    simp only [own, s0, s1, s2, s3, s4, s5, if_true, if_false, Bool.false_eq_true, K.mk.injEq, true_and, and_true] at hc
    have p0 := right_no32 (show right (L f) = true by simpa [s0] using i0)
    have p2 := right_no32 (show right (L s) = true by simpa [s2] using i2)
    have e : txt ⟨k, u, f, q, s, m, n, t⟩ = nameL k ++ (wordL nNum (decDigits u.toNat) ++ (wordL nFoot (L f) ++ (wordL nReq (decDigits q.toNat) ++ (wordL nPath (L s) ++ [])))) := by simp [txt, t0, t1, t2, t3, t4, t5, s0, s1, s2, s3, s4, s5, List.append_assoc]
    have hc0 : cutC 32 (nameL k ++ (wordL nNum (decDigits u.toNat) ++ (wordL nFoot (L f) ++ (wordL nReq (decDigits q.toNat) ++ (wordL nPath (L s) ++ []))))) = (nameL k, ((wordL nNum (decDigits u.toNat) ++ (wordL nFoot (L f) ++ (wordL nReq (decDigits q.toNat) ++ (wordL nPath (L s) ++ []))))).drop 1) := cut_tail n1 (tail_word _ _ _)
    obtain ⟨v0, r0⟩ := word_val (n := nNum) (v := (decDigits u.toNat)) (y := (wordL nFoot (L f) ++ (wordL nReq (decDigits q.toNat) ++ (wordL nPath (L s) ++ [])))) w1 (dec_no32 _) (tail_word _ _ _)
    obtain ⟨v1, r1⟩ := word_val (n := nFoot) (v := (L f)) (y := (wordL nReq (decDigits q.toNat) ++ (wordL nPath (L s) ++ []))) w2 (p0) (tail_word _ _ _)
    obtain ⟨v2, r2⟩ := word_val (n := nReq) (v := (decDigits q.toNat)) (y := (wordL nPath (L s) ++ [])) w3 (dec_no32 _) (tail_word _ _ _)
    obtain ⟨v3, r3⟩ := word_val (n := nPath) (v := (L s)) (y := []) w4 (p2) (.inl rfl)
    unfold gOf
    rw [e, hc0]
    simp only [kind_name k a1, s0, s1, s2, s3, s4, s5, if_true, if_false, Bool.false_eq_true, v0, r0, v1, r1, v2, r2, v3, r3]
    simp only [K.mk.injEq, ru, rq, rm, rn, rt, cu, cq, cm, cn, ct, wm, wt, mk_L]
    simp [hc]
  · obtain ⟨s0, s1, s2, s3, s4, s5⟩ := g
    simp only [own, s0, s1, s2, s3, s4, s5, if_true, if_false, Bool.false_eq_true, K.mk.injEq, true_and, and_true] at hc
    have p0 := right_no32 (show right (L f) = true by simpa [s0] using i0)
    have p2 := right_no32 (show right (L s) = true by simpa [s2] using i2)
    have e : txt ⟨k, u, f, q, s, m, n, t⟩ = nameL k ++ (wordL nNum (decDigits u.toNat) ++ (wordL nFoot (L f) ++ (wordL nReq (decDigits q.toNat) ++ (wordL nPath (L s) ++ (wordL nN (decDigits n.toNat) ++ []))))) := by simp [txt, t0, t1, t2, t3, t4, t5, s0, s1, s2, s3, s4, s5, List.append_assoc]
    have hc0 : cutC 32 (nameL k ++ (wordL nNum (decDigits u.toNat) ++ (wordL nFoot (L f) ++ (wordL nReq (decDigits q.toNat) ++ (wordL nPath (L s) ++ (wordL nN (decDigits n.toNat) ++ [])))))) = (nameL k, ((wordL nNum (decDigits u.toNat) ++ (wordL nFoot (L f) ++ (wordL nReq (decDigits q.toNat) ++ (wordL nPath (L s) ++ (wordL nN (decDigits n.toNat) ++ [])))))).drop 1) := cut_tail n1 (tail_word _ _ _)
    obtain ⟨v0, r0⟩ := word_val (n := nNum) (v := (decDigits u.toNat)) (y := (wordL nFoot (L f) ++ (wordL nReq (decDigits q.toNat) ++ (wordL nPath (L s) ++ (wordL nN (decDigits n.toNat) ++ []))))) w1 (dec_no32 _) (tail_word _ _ _)
    obtain ⟨v1, r1⟩ := word_val (n := nFoot) (v := (L f)) (y := (wordL nReq (decDigits q.toNat) ++ (wordL nPath (L s) ++ (wordL nN (decDigits n.toNat) ++ [])))) w2 (p0) (tail_word _ _ _)
    obtain ⟨v2, r2⟩ := word_val (n := nReq) (v := (decDigits q.toNat)) (y := (wordL nPath (L s) ++ (wordL nN (decDigits n.toNat) ++ []))) w3 (dec_no32 _) (tail_word _ _ _)
    obtain ⟨v3, r3⟩ := word_val (n := nPath) (v := (L s)) (y := (wordL nN (decDigits n.toNat) ++ [])) w4 (p2) (tail_word _ _ _)
    obtain ⟨v4, r4⟩ := word_val (n := nN) (v := (decDigits n.toNat)) (y := []) w6 (dec_no32 _) (.inl rfl)
    unfold gOf
    rw [e, hc0]
    simp only [kind_name k a1, s0, s1, s2, s3, s4, s5, if_true, if_false, Bool.false_eq_true, v0, r0, v1, r1, v2, r2, v3, r3, v4, r4]
    simp only [K.mk.injEq, ru, rq, rm, rn, rt, cu, cq, cm, cn, ct, wm, wt, mk_L]
    simp [hc]
  · obtain ⟨s0, s1, s2, s3, s4, s5⟩ := g
    simp only [own, s0, s1, s2, s3, s4, s5, if_true, if_false, Bool.false_eq_true, K.mk.injEq, true_and, and_true] at hc
    have p0 := right_no32 (show right (L f) = true by simpa [s0] using i0)
    have e : txt ⟨k, u, f, q, s, m, n, t⟩ = nameL k ++ (wordL nNum (decDigits u.toNat) ++ (wordL nFoot (L f) ++ (wordL nTime (decDigits t.toNat) ++ []))) := by simp [txt, t0, t1, t2, t3, t4, t5, s0, s1, s2, s3, s4, s5, List.append_assoc]
    have hc0 : cutC 32 (nameL k ++ (wordL nNum (decDigits u.toNat) ++ (wordL nFoot (L f) ++ (wordL nTime (decDigits t.toNat) ++ [])))) = (nameL k, ((wordL nNum (decDigits u.toNat) ++ (wordL nFoot (L f) ++ (wordL nTime (decDigits t.toNat) ++ [])))).drop 1) := cut_tail n1 (tail_word _ _ _)
    obtain ⟨v0, r0⟩ := word_val (n := nNum) (v := (decDigits u.toNat)) (y := (wordL nFoot (L f) ++ (wordL nTime (decDigits t.toNat) ++ []))) w1 (dec_no32 _) (tail_word _ _ _)
    obtain ⟨v1, r1⟩ := word_val (n := nFoot) (v := (L f)) (y := (wordL nTime (decDigits t.toNat) ++ [])) w2 (p0) (tail_word _ _ _)
    obtain ⟨v2, r2⟩ := word_val (n := nTime) (v := (decDigits t.toNat)) (y := []) w7 (dec_no32 _) (.inl rfl)
    unfold gOf
    rw [e, hc0]
    simp only [kind_name k a1, s0, s1, s2, s3, s4, s5, if_true, if_false, Bool.false_eq_true, v0, r0, v1, r1, v2, r2]
    simp only [K.mk.injEq, ru, rq, rm, rn, rt, cu, cq, cm, cn, ct, wm, wt, mk_L]
    simp [hc]
end Go.Proofs.YtohffiehmmcgbaaGreatDoor
namespace Go.Proofs.YtohffiehmmcgbaaGreatDoor
open Go.ChangeShapes Go.WideShapes Go.ChangeAt Go.RowKit Go.Lib
set_option linter.unusedVariables false
set_option linter.unusedSimpArgs false
def namesV : Array Value := #[.string (mk (nameL 0)), .string (mk (nameL 1)), .string (mk (nameL 2)), .string (mk (nameL 3)), .string (mk (nameL 4)), .string (mk (nameL 5)), .string (mk (nameL 6)), .string (mk (nameL 7)), .string (mk (nameL 8))]
def NamesIs (w : World) : Prop := w.var? Tryz.prog "moothill/cmd.names" = some namesV
def PowIs (w : World) : Prop := TabIs Tryz.prog w "internal/strconv.uint64pow10" .u64 pow10Tab
def Laid7 (w : World) : Prop :=
  PartsIs w ∧ NamesIs w ∧ PowIs w ∧ (∃ t p, w.var? Tryz.prog "strconv.ErrSyntax" = some #[.iface t p]) ∧ (∃ t p, w.var? Tryz.prog "strconv.ErrRange" = some #[.iface t p])
theorem Laid7.below {w w' : World} (h : Laid7 w) (hb : Below w.heap.size w w') : Laid7 w' := by
  obtain ⟨h0, h1, h2, ⟨t, p, h3⟩, t', p', h4⟩ := h
  exact ⟨h0.below hb, var_below h1 hb, var_below h2 hb, ⟨t, p, var_below h3 hb⟩, t', p', var_below h4 hb⟩
theorem Laid7.pow {w : World} (h : Laid7 w) : PowIs w := h.2.2.1
theorem Laid7.drew {w : World} (h : Laid7 w) : Laid7 w.drew := h
theorem below_grown_dN (w : World) (k : Nat) (os : Array Obj) : Below w.heap.size w (Go.Sort.grow (w.drewN k) os) := by
  refine ⟨rfl, rfl, rfl, ?_, ?_⟩
  · simp [Go.Sort.grow, World.drewN]
  · intro j hj
    simp only [Go.Sort.grow, World.drewN]
    rw [Array.getElem?_append_left hj]
set_option maxRecDepth 100000 in
set_option maxHeartbeats 4000000 in
theorem fmtin_any (u : Nat) (w : World) (hu64 : u < 18446744073709551616) (htab : PowIs w) :
    Calls Tryz.prog 149 #[.int .u64 (u : Int), .int .i64 10] w (TellsL (decDigits u) w) := by
  by_cases hs : u < 100
  · have hw : IntKind.i64.wrap (u : Int) = u := by rw [IntKind.wrap_i64]; omega
    go_enter Tryz.func149, Tryz.ntmps149
    go_wp2_with fail
    refine (Tryz.internal_strconv_small u hs _).mono ?_
    rintro e w' ⟨rfl, rfl⟩
    go_wp2
    go_ret
    exact ⟨_, rfl, L_mk7 _, Below.refl _ _⟩
  · have hu1 : 1 ≤ u := by omega
    have hnd20 : nDigits u ≤ 20 := nDigits_le20 u hu64
    have hal : Tryz.prog.arrayLen 209 = 24 := by kernel_rfl
    have hsl : ∀ W, (Instr.sliceAt 209 (.pointer (some ⟨w.heap.size, 0, none⟩)) none (some (.int .i64 (nDigits u : Int))) none).run Tryz.prog W = .ok (.slice (some ⟨w.heap.size, 0, none⟩) (nDigits u) 24) W := fun W => by
      rw [run_sliceAt_array_h W 209 ⟨w.heap.size, 0, none⟩ (by kernel_rfl) .i64 (nDigits u : Int) (by omega) (by rw [hal]; omega)]
      go_simp
    have hH0 := holds_zero0 w 209 (nDigits u) (by omega)
    have hfmt := Tryz.internal_strconv_formatBase10 w.heap.size 0 24 u (Array.replicate (nDigits u) 0) (w.alloc (.cells zeros24 209)) hH0 (by rw [Array.size_replicate]; exact lt_pow_nDigits u) hu64 (by rw [Array.size_replicate]; omega)
    rw [Array.size_replicate] at hfmt
    have HH0 := Lib.hid hH0
    have HT := hid (tabIs_alloc htab (.cells zeros24 209))
    have hd : decide ((u : Int) < 100) = false := decide_eq_false (by omega)
    clear hH0 hal htab
    go_enter Tryz.func149, Tryz.ntmps149
    go_wp2_with fail
    refine (Tryz.internal_strconv_numDigits u hu1 hu64 _ HT.out).mono ?_
    rintro e w' ⟨rfl, rfl⟩
    go_wp2_with fail
    refine hfmt.mono ?_
    rintro e w' ⟨rfl, k, v', dk, rfl, hF⟩
    have hcv : (convert 22 9 (.slice (some ⟨w.heap.size, 0, none⟩) (nDigits u) 24)).run Tryz.prog ((Go.Sort.putRow (fun (b : UInt8) => Value.int .u8 (b.toNat : Int)) (w.alloc (.cells zeros24 209)) w.heap.size 0 dk).drewN k) = .ok (.string ⟨(decDigits u).toArray⟩) ((Go.Sort.putRow (fun (b : UInt8) => Value.int .u8 (b.toNat : Int)) (w.alloc (.cells zeros24 209)) w.heap.size 0 dk).drewN k) := by
      have h := run_convert_bytes_back (P := Tryz.prog) ((Go.Sort.putRow (fun (b : UInt8) => Value.int .u8 (b.toNat : Int)) (w.alloc (.cells zeros24 209)) w.heap.size 0 dk).drewN k) 22 9 5 ⟨w.heap.size, 0, none⟩ 24 (decDigits u) Tryz.underlying22 Tryz.underlying5 Tryz.underlying9 (fun j hj => by
        rw [row_is_numeral hF j hj, Lib.add_plain, World.cell?_drewN]
        exact Go.Sort.cell?_putRow (fun (b : UInt8) => Value.int .u8 (b.toNat : Int)) _ w.heap.size 0 _ dk HH0.out (by rw [hF.size, Array.size_replicate]) j (by rw [hF.size]; rw [decDigits_length] at hj; exact hj))
      rw [decDigits_length] at h
      exact h
    go_wp2
    go_ret
    obtain ⟨os, eo⟩ := fin_at w (.cells zeros24 209) dk k 0
    exact ⟨_, rfl, L_mk7 _, by rw [eo]; exact below_grown_dN w k os⟩
set_option maxRecDepth 100000 in
set_option maxHeartbeats 400000 in
theorem fmt_any (u : Nat) (w : World) (hu64 : u < 18446744073709551616) (htab : PowIs w) :
    Calls Tryz.prog 115 #[.int .u64 (u : Int), .int .i64 10] w (TellsL (decDigits u) w) := by
  go_enter Tryz.func115, Tryz.ntmps115
  go_wp2_with fail
  with_reducible refine (fmtin_any u _ hu64 htab).mono ?_
  rintro e w1 ⟨r, rfl, hr, hb⟩
  have HR := hid hr
  have HB := hid hb
  clear hr hb
  go_wp2
  go_ret
  exact ⟨r, rfl, HR.out, HB.out⟩
set_option maxRecDepth 100000 in
set_option maxHeartbeats 400000 in
theorem show_any7 (u : Nat) (a : Int) (w : World) (ha : a = (u : Int)) (hu64 : u < 18446744073709551616) (htab : PowIs w) :
    Calls Tryz.prog 64 #[.int .u64 a] w (TellsL (decDigits u) w) := by
  subst ha
  go_enter Tryz.func64, Tryz.ntmps64
  go_wp2_with fail
  with_reducible refine (fmt_any u _ hu64 htab).mono ?_
  rintro e w1 ⟨r, rfl, hr, hb⟩
  have HR := hid hr
  have HB := hid hb
  clear hr hb
  go_wp2
  go_ret
  exact ⟨r, rfl, HR.out, HB.out⟩
end Go.Proofs.YtohffiehmmcgbaaGreatDoor
namespace Go.Proofs.YtohffiehmmcgbaaGreatDoor
open Go.ChangeShapes Go.WideShapes Go.ChangeAt Go.RowKit Go.Lib
set_option linter.unusedVariables false
set_option linter.unusedSimpArgs false
attribute [local go_sem] Oper.semAt_some
def CutAtC (c : UInt8) (s : ByteArray) (w : World) (e : Ending) (w' : World) : Prop :=
  ∃ (a b : ByteArray) (f : Bool), e = .returned (.tuple #[.string a, .string b, .bool f]) ∧ cutC c (L s) = (L a, L b) ∧ Below w.heap.size w w'
theorem below_dN7 (w : World) (n : Nat) : Below w.heap.size w (w.drewN n) := ⟨rfl, rfl, rfl, Nat.le_refl _, fun _ _ => rfl⟩
set_option maxHeartbeats 2000000 in
set_option maxRecDepth 100000 in
theorem cutlite7 (c : UInt8) (s : ByteArray) (w : World) (hs : s.size ≤ 4611686018427387904) : Calls Tryz.prog 163 #[.string s, .string ⟨#[c]⟩] w (CutAtC c s w) := by
  rcases cutC_index c (L s) with ⟨h1, h2⟩ | ⟨k, h1, h2, h3⟩
  · have H := hid h2
    clear h2
    go_enter Tryz.func163, Tryz.ntmps163
    go_wp2_with (go_at_call 188; refine (Tryz.stringslite_Index_one s c _).mono ?_; rintro e w' ⟨rfl, rfl⟩; rw [show Lib.indexByte s.data.toList c = _ from h1])
    go_ret3
    exact ⟨s, ⟨#[]⟩, false, rfl, H.out, Below.refl _ _⟩
  · rw [L_length] at h2
    have H := hid h3
    have H1 := hid h1
    clear h3 h1
    have c1 : (0 : Int) ≤ ↑k := by omega
    have c2 : (↑k : Int) ≤ ↑s.size := by omega
    have c3 : (0 : Int) ≤ ↑k + 1 := by omega
    have c4 : (↑k + 1 : Int) ≤ ↑s.size := by omega
    go_enter Tryz.func163, Tryz.ntmps163
    go_wp2_with (go_at_call 188; refine (Tryz.stringslite_Index_one s c _).mono ?_; rintro e w' ⟨rfl, rfl⟩; rw [show Lib.indexByte s.data.toList c = _ from H1.out])
    go_region
    go_wp2
    go_ret3
    refine ⟨s.extract 0 k, s.extract (k + 1) s.size, true, rfl, ?_, below_dN7 _ 1⟩
    rw [L_rest, L_extract, H.out]; simp
set_option maxHeartbeats 1000000 in
theorem cut7 (c : UInt8) (s : ByteArray) (w : World) (hs : s.size ≤ 4611686018427387904) : Calls Tryz.prog 135 #[.string s, .string ⟨#[c]⟩] w (CutAtC c s w) := by
  go_enter Tryz.func135, Tryz.ntmps135
  go_wp2_with fail
  refine (cutlite7 c s _ hs).mono ?_
  rintro e w1 ⟨a, b, f, rfl, hc, hb⟩
  have H := hid hc
  have HB := hid hb
  clear hc hb
  go_wp2
  go_ret3
  exact ⟨a, b, f, rfl, H.out, HB.out⟩
set_option maxRecDepth 100000 in
set_option maxHeartbeats 1000000 in
theorem read7 (s : ByteArray) (w : World) (hs : s.size ≤ 281474976710656) (hL : Laid7 w) :
    Calls Tryz.prog 186 #[.string s] w fun e w' => e = .returned (.int .u64 (readL (L s) : Int)) ∧ Below w.heap.size w w' := by
  obtain ⟨_, _, _, ⟨t, p, h3⟩, t', p', h4⟩ := hL
  have key : Calls Tryz.prog 206 #[.string s, .int .i64 10, .int .i64 64] w fun e w' => (∃ z : Value, e = .returned (.tuple #[.int .u64 (readL (L s) : Int), z])) ∧ Below w.heap.size w w' := by
    rcases h : parseUintB 64 (L s) with v | _ | _
    · rw [show readL (L s) = v by unfold readL; rw [h]]
      refine (Tryz.strconv_ParseUint_10_at64_ok s (by omega) v h w).mono fun e w' ⟨he, hw⟩ => ⟨⟨_, he⟩, ?_⟩
      rcases hw with rfl | rfl
      · exact Below.refl _ _
      · exact bytesWorld_below _ _ _
    · rw [show readL (L s) = 0 by unfold readL; rw [h]]
      exact (Go.Proofs.Any.strconv_ParseUint_10_at64_syntax_var Tryz.laysPu14 s hs h t p w h3).mono fun e w' ⟨N, he, _, _, hw⟩ => ⟨⟨_, he⟩, hw⟩
    · rw [show readL (L s) = 18446744073709551615 by unfold readL; rw [h]]
      exact (Tryz.strconv_ParseUint_10_at64_range_var s hs h t' p' w h4).mono fun e w' ⟨N, he, _, _, hw⟩ => ⟨⟨_, he⟩, hw⟩
  have KEY := hid key
  clear h3 h4 key
  go_enter Tryz.func186, Tryz.ntmps186
  go_wp2_with fail
  refine KEY.out.mono ?_
  rintro e w1 ⟨⟨z, rfl⟩, hb⟩
  have HB := hid hb
  clear hb
  go_wp2
  go_ret
  exact ⟨rfl, HB.out⟩
set_option maxRecDepth 100000 in
set_option maxHeartbeats 400000 in
theorem word7 (n v : ByteArray) (w : World) (hn : n.size ≤ 1000) (hv : v.size ≤ 100000) : Calls Tryz.prog 63 #[.string n, .string v] w (TellsL (wordL (L n) (L v)) w) := by
  go_enter Tryz.func63, Tryz.ntmps63
  go_wp2
  go_ret
  exact ⟨_, rfl, by simp [L_append, wordL, L], Below.refl _ _⟩
theorem dec_len7 {v : Nat} (hv : v < 18446744073709551616) : (decDigits v).length ≤ 20 := by rw [decDigits_length]; exact nDigits_le20 v hv
theorem size_of_L {r : ByteArray} {l : List UInt8} {n : Nat} (h : L r = l) (hl : l.length ≤ n) : r.size ≤ n := by rw [← L_length, h]; exact hl
theorem wordL_len (n v : List UInt8) : (wordL n v).length = n.length + v.length + 2 := by simp [wordL]; omega
theorem gNames : Tryz.prog.globalNamed "moothill/cmd.names" = some 1 := by kernel_rfl
theorem names_cell {w : World} (h : NamesIs w) (k : Nat) (hk : k ≤ 8) : w.cell? ⟨1, k, none⟩ = some (.string (mk (nameL (k : Int)))) := by
  have h1 : w.cell? ⟨1, k, none⟩ = namesV[k]? := World.var?_cell gNames h k
  rw [h1]
  have : k = 0 ∨ k = 1 ∨ k = 2 ∨ k = 3 ∨ k = 4 ∨ k = 5 ∨ k = 6 ∨ k = 7 ∨ k = 8 := by omega
  rcases this with rfl | rfl | rfl | rfl | rfl | rfl | rfl | rfl | rfl <;> rfl
theorem name_len (k : Int) : (nameL k).length ≤ 7 := by
  unfold nameL
  repeat' split
  all_goals decide
theorem word_size {n v b : ByteArray} {i j k : Nat} (h : L b = wordL (L n) (L v)) (hn : n.size ≤ i) (hv : v.size ≤ j) (hk : i + j + 2 = k) : b.size ≤ k := by
  have h1 := congrArg List.length h
  rw [wordL_len, L_length, L_length, L_length] at h1
  omega
theorem L_num : L ⟨#[110, 117, 109]⟩ = nNum := rfl
theorem L_foot : L ⟨#[102, 111, 111, 116]⟩ = nFoot := rfl
theorem L_req : L ⟨#[114, 101, 113, 117, 101, 115, 116]⟩ = nReq := rfl
theorem L_path : L ⟨#[112, 97, 116, 104]⟩ = nPath := rfl
theorem L_mode : L ⟨#[109, 111, 100, 101]⟩ = nMode := rfl
theorem L_n : L ⟨#[110]⟩ = nN := rfl
theorem L_time : L ⟨#[116, 105, 109, 101]⟩ = nTime := rfl
end Go.Proofs.YtohffiehmmcgbaaGreatDoor
