/-
  The document's own text of any command that may be.
-/
import Derived.Test.YtfdphcgfdodnoaaDoorKSaidA
import Derived.Test.YtfdphcgfdodnoaaDoorKSaidB
import Derived.Test.YtfdphcgfdodnoaaDoorKSaidC
import Derived.Test.YtfdphcgfdodnoaaDoorKRef
namespace Go.Proofs.YtfdphcgfdodnoaaDoor
open Go.ChangeShapes Go.WideShapes Go.ChangeAt Go.RowKit Go.Lib

theorem text_any (c : K) (w : World) (ho : okK c) (hr : rightK c = true) : Calls Tryd.prog 15 #[val c] w (TellsL (txt c) w) := by
  obtain ⟨r1, r2, r3, r4, r5⟩ := right_in c ho hr
  obtain ⟨o1, o2, o3, _⟩ := ho
  obtain ⟨k, u, f, q, s, m, n, t⟩ := c
  simp only at r1 r2 r3 r4 r5 o1 o2 o3
  have : k = 0 ∨ k = 1 ∨ k = 2 ∨ k = 3 ∨ k = 4 ∨ k = 5 ∨ k = 6 ∨ k = 7 ∨ k = 8 := by omega
  rcases this with rfl | rfl | rfl | rfl | rfl | rfl | rfl | rfl | rfl
  · exact text_0 u f q s m n t w o1 o2 o3 r2 r3 r4 r5
  · exact text_1 u f q s m n t w o1 o2 o3 r2 r3 r4 r5
  · exact text_2 u f q s m n t w o1 o2 o3 r2 r3 r4 r5
  · exact text_3 u f q s m n t w o1 o2 o3 r2 r3 r4 r5
  · exact text_4 u f q s m n t w o1 o2 o3 r2 r3 r4 r5
  · exact text_5 u f q s m n t w o1 o2 o3 r2 r3 r4 r5
  · exact text_6 u f q s m n t w o1 o2 o3 r2 r3 r4 r5
  · exact text_7 u f q s m n t w o1 o2 o3 r2 r3 r4 r5
  · exact text_8 u f q s m n t w o1 o2 o3 r2 r3 r4 r5

theorem txt_len (c : K) (ho : okK c) (hr : rightK c = true) : (txt c).length ≤ 100000 := by
  obtain ⟨r1, r2, r3, r4, r5⟩ := right_in c ho hr
  obtain ⟨o1, o2, o3, _⟩ := ho
  obtain ⟨k, u, f, q, s, m, n, t⟩ := c
  simp only at r1 r2 r3 r4 r5 o1 o2 o3
  have l1 := dec_len7 (v := u.toNat) (by omega)
  have l2 := dec_len7 (v := q.toNat) (by omega)
  have l3 := dec_len7 (v := m.toNat) (by omega)
  have l4 := dec_len7 (v := n.toNat) (by omega)
  have l5 := dec_len7 (v := t.toNat) (by omega)
  have l0 := name_len k
  have w0 : (t0 ⟨k, u, f, q, s, m, n, t⟩).length ≤ 1000 := by unfold t0; split <;> simp [wordL_len, L_length, nNum, nFoot] <;> omega
  have w1 : (t1 ⟨k, u, f, q, s, m, n, t⟩).length ≤ 1000 := by unfold t1; split <;> simp [wordL_len, nReq] <;> omega
  have w2 : (t2 ⟨k, u, f, q, s, m, n, t⟩).length ≤ 1000 := by unfold t2; split <;> simp [wordL_len, L_length, nPath] <;> omega
  have w3 : (t3 ⟨k, u, f, q, s, m, n, t⟩).length ≤ 1000 := by unfold t3; split <;> simp [wordL_len, nMode] <;> omega
  have w4 : (t4 ⟨k, u, f, q, s, m, n, t⟩).length ≤ 1000 := by unfold t4; split <;> simp [wordL_len, nN] <;> omega
  have w5 : (t5 ⟨k, u, f, q, s, m, n, t⟩).length ≤ 1000 := by unfold t5; split <;> simp [wordL_len, nTime] <;> omega
  unfold txt
  simp only [List.length_append]
  try dsimp only at l0 ⊢
  omega

end Go.Proofs.YtfdphcgfdodnoaaDoor
