/-
  A state's text by value, and what is read off one: no walk in it.
-/
import Derived.Test.YtohffiehmmcgbaaGreatDoorXL
import Derived.Test.YtohffiehmmcgbaaGreatDoorXM
import Derived.Test.YtohffiehmmcgbaaGreatDoorXD
import Derived.Lib.Split
import Derived.Lib.IndexBytes
namespace Go.Proofs.YtohffiehmmcgbaaGreatDoor
open Go.Lib
set_option linter.unusedVariables false
theorem cut_blank {p r : List UInt8} (hp : ∀ d ∈ p, d ≠ 32) : indexByte (p ++ 32 :: r) 32 = (p.length : Int) := by
  have h := cutN_app 32 p r hp
  rcases cutN_index 32 (p ++ 32 :: r) with ⟨_, h2⟩ | ⟨k, h1, h2, h3⟩
  · rw [h] at h2
    have := congrArg (fun x => x.1.length) h2
    simp at this
  · rw [h] at h3
    have e := congrArg (fun x => x.1.length) h3
    simp only [List.length_take] at e
    rw [h1]
    omega
theorem no_blank {p : List UInt8} (hp : ∀ d ∈ p, d ≠ 32) : indexByte p 32 = -1 := by
  have h := cutN_all 32 p hp
  rcases cutN_index 32 p with ⟨h1, _⟩ | ⟨k, h1, h2, h3⟩
  · exact h1
  · rw [h] at h3
    have e := congrArg (fun x => x.1.length) h3
    simp only [List.length_take] at e
    omega
theorem join_more (p q : List UInt8) (r : List (List UInt8)) : Lib.join (p :: q :: r) [32] = p ++ 32 :: Lib.join (q :: r) [32] := by simp [Lib.join, List.intercalate]
theorem split_join : ∀ (ps : List (List UInt8)) (q : List UInt8) (k : Nat), (∀ p ∈ ps, ∀ d ∈ p, d ≠ 32) → (ps.length = k ∨ (ps.length ≤ k ∧ ∀ d ∈ q, d ≠ 32)) → splitK [32] 0 k (Lib.join (ps ++ [q]) [32]) = ps ++ [q]
  | [], q, k, _, h => by
    rw [List.nil_append, Lib.join_one]
    cases k with
    | zero => rfl
    | succ k =>
      have hq : ∀ d ∈ q, d ≠ 32 := by rcases h with h | h; { simp at h }; { exact h.2 }
      unfold splitK
      rw [index_one, no_blank hq]
      rfl
  | p :: ps, q, k, hp, h => by
    obtain ⟨k, rfl⟩ : ∃ m, k = m + 1 := ⟨k - 1, by rcases h with h | ⟨h, _⟩ <;> simp at h <;> omega⟩
    have hj : Lib.join ((p :: ps) ++ [q]) [32] = p ++ 32 :: Lib.join (ps ++ [q]) [32] := by
      cases ps with
      | nil => exact join_more p q []
      | cons a t => exact join_more p a (t ++ [q])
    rw [hj]
    unfold splitK
    rw [index_one, cut_blank (hp p (by simp))]
    have hn : ¬ (((p.length : Int)) == -1) = true := fun e => by have := beq_iff_eq.1 e; omega
    rw [if_neg hn]
    have ih := split_join ps q k (fun x hx => hp x (by simp [hx])) (by rcases h with h | ⟨h, h2⟩; { left; simp at h; exact h }; { right; simp at h; exact ⟨h, h2⟩ })
    have e1 : (p ++ 32 :: Lib.join (ps ++ [q]) [32]).take ((p.length : Int).toNat + 0) = p := by simp
    have e2 : (p ++ 32 :: Lib.join (ps ++ [q]) [32]).drop ((p.length : Int).toNat + ([32] : List UInt8).length) = Lib.join (ps ++ [q]) [32] := by simp
    rw [e1, e2, ih]
    rfl
def balT (b : Nat) : List UInt8 := textOf ((b / 8 : Nat) : Int) ((b % 8 : Nat) : Int)
def whoL (same : Bool) : List UInt8 := if same then [115, 97, 109, 101] else [111, 116, 104, 101, 114]
def headW (x : J) : List (List UInt8) := [textOf x.r x.s, balT x.bal.toNat]
def partsJ (x : J) : List (List UInt8) := if x.st = 0 then headW x ++ [statL x.st.toNat] else (headW x ++ [statL x.st.toNat, balT x.vote.toNat, whoL x.same, textA x.f]) ++ [txt x.c]
def textJ (x : J) : List UInt8 := Lib.join (partsJ x) [32]
theorem textOf_no32 (a b : Int) : ∀ d ∈ textOf a b, d ≠ 32 := by
  intro d hd
  unfold textOf at hd
  rcases List.mem_append.1 hd with h | h
  · exact itoa_none a 32 (by decide) (by decide) d h
  · rcases List.mem_cons.1 h with rfl | h
    · decide
    · exact itoa_none b 32 (by decide) (by decide) d h
theorem balT_no32 (b : Nat) : ∀ d ∈ balT b, d ≠ 32 := textOf_no32 _ _
theorem statL_no32 (n : Nat) (h : n < 4) : ∀ d ∈ statL n, d ≠ 32 := by
  have e : n = 0 ∨ n = 1 ∨ n = 2 ∨ n = 3 := by omega
  rcases e with rfl | rfl | rfl | rfl <;> decide
theorem whoL_no32 (s : Bool) : ∀ d ∈ whoL s, d ≠ 32 := by cases s <;> decide
theorem textA_no32 (f : Nat → Int) : ∀ d ∈ textA f, d ≠ 32 := by
  intro d hd
  unfold textA at hd
  rcases List.mem_append.1 hd with h | h
  · exact itoa_none _ 32 (by decide) (by decide) d h
  · rcases List.mem_cons.1 h with rfl | h
    · decide
    · have key : ∀ (xs : List (List UInt8)), (∀ x ∈ xs, ∀ d ∈ x, d ≠ 32) → ∀ d ∈ Lib.join xs [44], d ≠ 32 := by
        intro xs
        induction xs with
        | nil => intro _ d hd; simp [Lib.join] at hd
        | cons p t ih =>
          intro hx d hd
          cases t with
          | nil => rw [Lib.join_one] at hd; exact hx p (by simp) d hd
          | cons q t =>
            have e : Lib.join (p :: q :: t) [44] = p ++ 44 :: Lib.join (q :: t) [44] := by simp [Lib.join, List.intercalate]
            rw [e] at hd
            rcases List.mem_append.1 hd with h | h
            · exact hx p (by simp) d h
            · rcases List.mem_cons.1 h with rfl | h
              · decide
              · exact ih (fun x hx' => hx x (by simp [hx'])) d h
      refine key _ ?_ d h
      intro x hx
      unfold partsA at hx
      obtain ⟨i, _, rfl⟩ := List.mem_map.1 hx
      exact itoa_none _ 32 (by decide) (by decide)
def headT (x : J) : List UInt8 := (textOf x.r x.s ++ 32 :: balT x.bal.toNat) ++ (if x.st = 0 then 32 :: statL x.st.toNat else 32 :: (statL x.st.toNat ++ 32 :: (balT x.vote.toNat ++ 32 :: (whoL x.same ++ 32 :: (textA x.f ++ [32])))))
theorem head_textJ (x : J) : textJ x = headT x ++ (if x.st = 0 then [] else txt x.c) := by
  unfold textJ partsJ headT headW
  by_cases h : x.st = 0
  · rw [if_pos h, if_pos h, if_pos h]
    simp only [List.cons_append, List.nil_append, join_more, Lib.join_one, List.append_nil, List.append_assoc]
  · rw [if_neg h, if_neg h, if_neg h]
    simp only [List.cons_append, List.nil_append, join_more, Lib.join_one, List.append_assoc]
theorem txtj_len (c : K) (ho : okK c) (hr : rightK c = true) : (txt c).length ≤ 7000 := by
  obtain ⟨r1, r2, r3, r4, r5⟩ := right_in c ho hr
  obtain ⟨o1, o2, o3, _⟩ := ho
  obtain ⟨k, u, f, q, s, m, n, t⟩ := c
  simp only at r1 r2 r3 r4 r5 o1 o2 o3
  have l1 := dec_len7 (v := u.toNat) (by omega)
  have l2 := dec_len7 (v := q.toNat) (by omega)
  have l3 := dec_len7 (v := m.toNat) (by omega)
  have l4 := dec_len7 (v := n.toNat) (by omega)
  have l5 := dec_len7 (v := t.toNat) (by omega)
  have l0 := name_len k
  have w0 : (t0 ⟨k, u, f, q, s, m, n, t⟩).length ≤ 1000 := by unfold t0; split <;> simp [wordL_len, L_length, nNum, nFoot] <;> omega
  have w1 : (t1 ⟨k, u, f, q, s, m, n, t⟩).length ≤ 1000 := by unfold t1; split <;> simp [wordL_len, nReq] <;> omega
  have w2 : (t2 ⟨k, u, f, q, s, m, n, t⟩).length ≤ 1000 := by unfold t2; split <;> simp [wordL_len, L_length, nPath] <;> omega
  have w3 : (t3 ⟨k, u, f, q, s, m, n, t⟩).length ≤ 1000 := by unfold t3; split <;> simp [wordL_len, nMode] <;> omega
  have w4 : (t4 ⟨k, u, f, q, s, m, n, t⟩).length ≤ 1000 := by unfold t4; split <;> simp [wordL_len, nN] <;> omega
  have w5 : (t5 ⟨k, u, f, q, s, m, n, t⟩).length ≤ 1000 := by unfold t5; split <;> simp [wordL_len, nTime] <;> omega
  unfold txt
  simp only [List.length_append]
  try dsimp only at l0 ⊢
  omega
end Go.Proofs.YtohffiehmmcgbaaGreatDoor
