/-
  The contracts of the document's Right and Foot (moothillref07), and of the law's anchor.
-/
import Derived.Test.YtpdfakjopeldmaaGreatDoorMgK
import Derived.Test.YtpdfakjopeldmaaGreatDoorZKBytes
import Derived.Test.YtpdfakjopeldmaaGreatDoorKSmall
namespace Go.Proofs.YtpdfakjopeldmaaGreatDoor
open Go.ChangeShapes Go.WideShapes Go.ChangeAt Go.RowKit Go.Lib
set_option linter.unusedSimpArgs false
set_option linter.unusedVariables false

set_option maxRecDepth 100000 in
set_option maxHeartbeats 1000000 in
theorem ref_off (k u : Int) (f : ByteArray) (q : Int) (s : ByteArray) (m n t : Int) (w : World) (hk : k < 0 ∨ 8 < k) :
    Calls Tryz.prog 66 #[val ⟨k, u, f, q, s, m, n, t⟩] w fun e w' => e = .returned (.bool (docK ⟨k, u, f, q, s, m, n, t⟩)) ∧ Below w.heap.size w w' := by
  have HE : Hid (docK ⟨k, u, f, q, s, m, n, t⟩ = false) := hid (by
    have h : isK k = false := by unfold isK; exact decide_eq_false (by omega)
    simp [docK, h])
  rcases Decidable.em (k < 0) with h | h
  · go_enter Tryz.func66, Tryz.ntmps66
    go_wp2
    go_ret
    exact ⟨ret_bool HE.out.symm, (Below.refl _ _).alloc (Nat.le_refl _) _⟩
  · have h8 : 8 < k := by omega
    go_enter Tryz.func66, Tryz.ntmps66
    go_wp2
    go_ret
    exact ⟨ret_bool HE.out.symm, (Below.refl _ _).alloc (Nat.le_refl _) _⟩

theorem refright7 (c : K) (w : World) (ho : okK c) (hf : c.foot.size ≤ 900) (hp : c.path.size ≤ 900) :
    Calls Tryz.prog 66 #[val c] w fun e w' => e = .returned (.bool (rightK c)) ∧ Below w.heap.size w w' := by
  rw [← doc_right c ho]
  obtain ⟨_, ⟨o1, _⟩, ⟨o2, _⟩, _⟩ := ho
  obtain ⟨k, u, f, q, s, m, n, t⟩ := c
  simp only at o1 o2 hf hp
  have : k < 0 ∨ 8 < k ∨ k = 0 ∨ k = 1 ∨ k = 2 ∨ k = 3 ∨ k = 4 ∨ k = 5 ∨ k = 6 ∨ k = 7 ∨ k = 8 := by omega
  rcases this with h | h | rfl | rfl | rfl | rfl | rfl | rfl | rfl | rfl | rfl
  · exact ref_off k u f q s m n t w (.inl h)
  · exact ref_off k u f q s m n t w (.inr h)
  · exact ref_0 u f q s m n t w hf hp o1 o2
  · exact ref_1 u f q s m n t w hf hp o1 o2
  · exact ref_2 u f q s m n t w hf hp o1 o2
  · exact ref_3 u f q s m n t w hf hp o1 o2
  · exact ref_4 u f q s m n t w hf hp o1 o2
  · exact ref_5 u f q s m n t w hf hp o1 o2
  · exact ref_6 u f q s m n t w hf hp o1 o2
  · exact ref_7 u f q s m n t w hf hp o1 o2
  · exact ref_8 u f q s m n t w hf hp o1 o2

theorem right_kind {c : K} (h : rightK c = true) : 0 ≤ c.kind ∧ c.kind ≤ 8 := by
  unfold rightK at h
  simp only [Bool.and_eq_true] at h
  have := h.1.1
  unfold isK at this
  rw [decide_eq_true_eq] at this
  omega

set_option maxRecDepth 100000 in
set_option maxHeartbeats 2000000 in
theorem foot_0 (u : Int) (f : ByteArray) (q : Int) (s : ByteArray) (m n t : Int) (w : World) (ho : okK ⟨0, u, f, q, s, m, n, t⟩) (hr : rightK ⟨0, u, f, q, s, m, n, t⟩ = true) (hf : f.size ≤ 900) (hp : s.size ≤ 900) :
    Calls Tryz.prog 43 #[val ⟨0, u, f, q, s, m, n, t⟩] w fun e w' => e = .returned (.tuple #[.string (footK ⟨0, u, f, q, s, m, n, t⟩).1, .bool (footK ⟨0, u, f, q, s, m, n, t⟩).2]) ∧ Below w.heap.size w w' := by
  rw [show footK ⟨0, u, f, q, s, m, n, t⟩ = (⟨#[]⟩, false) by unfold footK; rw [hr]; rfl]
  have HR := hid hr
  have HO := hid ho
  have A0 : Hid (BoxedC w (w.alloc (.cells (cellsOf ⟨0, u, f, q, s, m, n, t⟩) 69)) w.heap.size ⟨0, u, f, q, s, m, n, t⟩) := hid (BoxedC.start w _)
  clear hr ho
  go_enter Tryz.func43, Tryz.ntmps43
  go_wp2_with fail
  with_reducible refine (refright7 ⟨0, u, f, q, s, m, n, t⟩ _ HO.out hf hp).mono ?_
  rw [HR.out]
  rintro e w1 ⟨rfl, hb⟩
  have A1 := hid (A0.out.on hb)
  clear hb A0
  obtain ⟨⟨c0, c1, c2, c3, c4, c5, c6, c7⟩, f0, f1, f2, f3, f4, f5, f6, f7⟩ := cells8 A1.out.1
  go_wp2
  go_ret2
  exact ⟨rfl, A1.out.below⟩

set_option maxRecDepth 100000 in
set_option maxHeartbeats 2000000 in
theorem foot_1 (u : Int) (f : ByteArray) (q : Int) (s : ByteArray) (m n t : Int) (w : World) (ho : okK ⟨1, u, f, q, s, m, n, t⟩) (hr : rightK ⟨1, u, f, q, s, m, n, t⟩ = true) (hf : f.size ≤ 900) (hp : s.size ≤ 900) :
    Calls Tryz.prog 43 #[val ⟨1, u, f, q, s, m, n, t⟩] w fun e w' => e = .returned (.tuple #[.string (footK ⟨1, u, f, q, s, m, n, t⟩).1, .bool (footK ⟨1, u, f, q, s, m, n, t⟩).2]) ∧ Below w.heap.size w w' := by
  rw [show footK ⟨1, u, f, q, s, m, n, t⟩ = (f, true) by unfold footK; rw [hr]; rfl]
  have HR := hid hr
  have HO := hid ho
  have A0 : Hid (BoxedC w (w.alloc (.cells (cellsOf ⟨1, u, f, q, s, m, n, t⟩) 69)) w.heap.size ⟨1, u, f, q, s, m, n, t⟩) := hid (BoxedC.start w _)
  clear hr ho
  go_enter Tryz.func43, Tryz.ntmps43
  go_wp2_with fail
  with_reducible refine (refright7 ⟨1, u, f, q, s, m, n, t⟩ _ HO.out hf hp).mono ?_
  rw [HR.out]
  rintro e w1 ⟨rfl, hb⟩
  have A1 := hid (A0.out.on hb)
  clear hb A0
  obtain ⟨⟨c0, c1, c2, c3, c4, c5, c6, c7⟩, f0, f1, f2, f3, f4, f5, f6, f7⟩ := cells8 A1.out.1
  have IX := has_ix1
  have JX : ∀ W, (Instr.index 116 (.agg #[.bool true, .bool true, .bool false, .bool false, .bool true, .bool true]) (.int .i64 2)).run Tryz.prog W = .ok (.bool false) W := fun W => by kernel_rfl
  go_wp2_with fail
  go_region_held3 (fun w' => w'.cell? ⟨w.heap.size, 0, none⟩ = some (.int .i64 1))
    (first | with_reducible exact BoxedC.kind A1.out | with_reducible exact BoxedC.kind (BoxedC.drew A1.out) | with_reducible exact BoxedC.kind A2.out)
    (first
      | (go_at_call 67; (with_reducible refine (has_ref _).mono ?_); rintro e w2 ⟨rfl, hb2⟩; have A2 := hid (BoxedC.on (BoxedC.drew A1.out) hb2)))
  rename_i hHeld
  clear hHeld A1 hb2 c0 c1 c2 c3 c4 c5 c6 c7 f0 f1 f2 f3 f4 f5 f6 f7
  obtain ⟨⟨c0, c1, c2, c3, c4, c5, c6, c7⟩, f0, f1, f2, f3, f4, f5, f6, f7⟩ := cells8 A2.out.1
  go_wp2
  go_ret2
  exact ⟨rfl, A2.out.below⟩

set_option maxRecDepth 100000 in
set_option maxHeartbeats 2000000 in
theorem foot_2 (u : Int) (f : ByteArray) (q : Int) (s : ByteArray) (m n t : Int) (w : World) (ho : okK ⟨2, u, f, q, s, m, n, t⟩) (hr : rightK ⟨2, u, f, q, s, m, n, t⟩ = true) (hf : f.size ≤ 900) (hp : s.size ≤ 900) :
    Calls Tryz.prog 43 #[val ⟨2, u, f, q, s, m, n, t⟩] w fun e w' => e = .returned (.tuple #[.string (footK ⟨2, u, f, q, s, m, n, t⟩).1, .bool (footK ⟨2, u, f, q, s, m, n, t⟩).2]) ∧ Below w.heap.size w w' := by
  rw [show footK ⟨2, u, f, q, s, m, n, t⟩ = (f, true) by unfold footK; rw [hr]; rfl]
  have HR := hid hr
  have HO := hid ho
  have A0 : Hid (BoxedC w (w.alloc (.cells (cellsOf ⟨2, u, f, q, s, m, n, t⟩) 69)) w.heap.size ⟨2, u, f, q, s, m, n, t⟩) := hid (BoxedC.start w _)
  clear hr ho
  go_enter Tryz.func43, Tryz.ntmps43
  go_wp2_with fail
  with_reducible refine (refright7 ⟨2, u, f, q, s, m, n, t⟩ _ HO.out hf hp).mono ?_
  rw [HR.out]
  rintro e w1 ⟨rfl, hb⟩
  have A1 := hid (A0.out.on hb)
  clear hb A0
  obtain ⟨⟨c0, c1, c2, c3, c4, c5, c6, c7⟩, f0, f1, f2, f3, f4, f5, f6, f7⟩ := cells8 A1.out.1
  have IX := has_ix2
  have JX : ∀ W, (Instr.index 116 (.agg #[.bool true, .bool true, .bool false, .bool false, .bool false, .bool false]) (.int .i64 2)).run Tryz.prog W = .ok (.bool false) W := fun W => by kernel_rfl
  go_wp2_with fail
  go_region_held3 (fun w' => w'.cell? ⟨w.heap.size, 0, none⟩ = some (.int .i64 2))
    (first | with_reducible exact BoxedC.kind A1.out | with_reducible exact BoxedC.kind (BoxedC.drew A1.out) | with_reducible exact BoxedC.kind A2.out)
    (first
      | (go_at_call 67; (with_reducible refine (has_ref _).mono ?_); rintro e w2 ⟨rfl, hb2⟩; have A2 := hid (BoxedC.on (BoxedC.drew A1.out) hb2)))
  rename_i hHeld
  clear hHeld A1 hb2 c0 c1 c2 c3 c4 c5 c6 c7 f0 f1 f2 f3 f4 f5 f6 f7
  obtain ⟨⟨c0, c1, c2, c3, c4, c5, c6, c7⟩, f0, f1, f2, f3, f4, f5, f6, f7⟩ := cells8 A2.out.1
  go_wp2
  go_ret2
  exact ⟨rfl, A2.out.below⟩

set_option maxRecDepth 100000 in
set_option maxHeartbeats 2000000 in
theorem foot_3 (u : Int) (f : ByteArray) (q : Int) (s : ByteArray) (m n t : Int) (w : World) (ho : okK ⟨3, u, f, q, s, m, n, t⟩) (hr : rightK ⟨3, u, f, q, s, m, n, t⟩ = true) (hf : f.size ≤ 900) (hp : s.size ≤ 900) :
    Calls Tryz.prog 43 #[val ⟨3, u, f, q, s, m, n, t⟩] w fun e w' => e = .returned (.tuple #[.string (footK ⟨3, u, f, q, s, m, n, t⟩).1, .bool (footK ⟨3, u, f, q, s, m, n, t⟩).2]) ∧ Below w.heap.size w w' := by
  rw [show footK ⟨3, u, f, q, s, m, n, t⟩ = (f, true) by unfold footK; rw [hr]; rfl]
  have HR := hid hr
  have HO := hid ho
  have A0 : Hid (BoxedC w (w.alloc (.cells (cellsOf ⟨3, u, f, q, s, m, n, t⟩) 69)) w.heap.size ⟨3, u, f, q, s, m, n, t⟩) := hid (BoxedC.start w _)
  clear hr ho
  go_enter Tryz.func43, Tryz.ntmps43
  go_wp2_with fail
  with_reducible refine (refright7 ⟨3, u, f, q, s, m, n, t⟩ _ HO.out hf hp).mono ?_
  rw [HR.out]
  rintro e w1 ⟨rfl, hb⟩
  have A1 := hid (A0.out.on hb)
  clear hb A0
  obtain ⟨⟨c0, c1, c2, c3, c4, c5, c6, c7⟩, f0, f1, f2, f3, f4, f5, f6, f7⟩ := cells8 A1.out.1
  have IX := has_ix3
  have JX : ∀ W, (Instr.index 116 (.agg #[.bool true, .bool true, .bool false, .bool false, .bool false, .bool true]) (.int .i64 2)).run Tryz.prog W = .ok (.bool false) W := fun W => by kernel_rfl
  go_wp2_with fail
  go_region_held3 (fun w' => w'.cell? ⟨w.heap.size, 0, none⟩ = some (.int .i64 3))
    (first | with_reducible exact BoxedC.kind A1.out | with_reducible exact BoxedC.kind (BoxedC.drew A1.out) | with_reducible exact BoxedC.kind A2.out)
    (first
      | (go_at_call 67; (with_reducible refine (has_ref _).mono ?_); rintro e w2 ⟨rfl, hb2⟩; have A2 := hid (BoxedC.on (BoxedC.drew A1.out) hb2)))
  rename_i hHeld
  clear hHeld A1 hb2 c0 c1 c2 c3 c4 c5 c6 c7 f0 f1 f2 f3 f4 f5 f6 f7
  obtain ⟨⟨c0, c1, c2, c3, c4, c5, c6, c7⟩, f0, f1, f2, f3, f4, f5, f6, f7⟩ := cells8 A2.out.1
  go_wp2
  go_ret2
  exact ⟨rfl, A2.out.below⟩

set_option maxRecDepth 100000 in
set_option maxHeartbeats 2000000 in
theorem foot_4 (u : Int) (f : ByteArray) (q : Int) (s : ByteArray) (m n t : Int) (w : World) (ho : okK ⟨4, u, f, q, s, m, n, t⟩) (hr : rightK ⟨4, u, f, q, s, m, n, t⟩ = true) (hf : f.size ≤ 900) (hp : s.size ≤ 900) :
    Calls Tryz.prog 43 #[val ⟨4, u, f, q, s, m, n, t⟩] w fun e w' => e = .returned (.tuple #[.string (footK ⟨4, u, f, q, s, m, n, t⟩).1, .bool (footK ⟨4, u, f, q, s, m, n, t⟩).2]) ∧ Below w.heap.size w w' := by
  rw [show footK ⟨4, u, f, q, s, m, n, t⟩ = (s, true) by unfold footK; rw [hr]; rfl]
  have HR := hid hr
  have HO := hid ho
  have A0 : Hid (BoxedC w (w.alloc (.cells (cellsOf ⟨4, u, f, q, s, m, n, t⟩) 69)) w.heap.size ⟨4, u, f, q, s, m, n, t⟩) := hid (BoxedC.start w _)
  clear hr ho
  go_enter Tryz.func43, Tryz.ntmps43
  go_wp2_with fail
  with_reducible refine (refright7 ⟨4, u, f, q, s, m, n, t⟩ _ HO.out hf hp).mono ?_
  rw [HR.out]
  rintro e w1 ⟨rfl, hb⟩
  have A1 := hid (A0.out.on hb)
  clear hb A0
  obtain ⟨⟨c0, c1, c2, c3, c4, c5, c6, c7⟩, f0, f1, f2, f3, f4, f5, f6, f7⟩ := cells8 A1.out.1
  have IX := has_ix4
  have JX : ∀ W, (Instr.index 116 (.agg #[.bool true, .bool true, .bool true, .bool true, .bool false, .bool false]) (.int .i64 2)).run Tryz.prog W = .ok (.bool true) W := fun W => by kernel_rfl
  go_wp2_with fail
  go_region_held3 (fun w' => w'.cell? ⟨w.heap.size, 0, none⟩ = some (.int .i64 4))
    (first | with_reducible exact BoxedC.kind A1.out | with_reducible exact BoxedC.kind (BoxedC.drew A1.out) | with_reducible exact BoxedC.kind A2.out)
    (first
      | (go_at_call 67; (with_reducible refine (has_ref _).mono ?_); rintro e w2 ⟨rfl, hb2⟩; have A2 := hid (BoxedC.on (BoxedC.drew A1.out) hb2)))
  rename_i hHeld
  clear hHeld A1 hb2 c0 c1 c2 c3 c4 c5 c6 c7 f0 f1 f2 f3 f4 f5 f6 f7
  obtain ⟨⟨c0, c1, c2, c3, c4, c5, c6, c7⟩, f0, f1, f2, f3, f4, f5, f6, f7⟩ := cells8 A2.out.1
  go_wp2
  go_ret2
  exact ⟨rfl, A2.out.below⟩

set_option maxRecDepth 100000 in
set_option maxHeartbeats 2000000 in
theorem foot_5 (u : Int) (f : ByteArray) (q : Int) (s : ByteArray) (m n t : Int) (w : World) (ho : okK ⟨5, u, f, q, s, m, n, t⟩) (hr : rightK ⟨5, u, f, q, s, m, n, t⟩ = true) (hf : f.size ≤ 900) (hp : s.size ≤ 900) :
    Calls Tryz.prog 43 #[val ⟨5, u, f, q, s, m, n, t⟩] w fun e w' => e = .returned (.tuple #[.string (footK ⟨5, u, f, q, s, m, n, t⟩).1, .bool (footK ⟨5, u, f, q, s, m, n, t⟩).2]) ∧ Below w.heap.size w w' := by
  rw [show footK ⟨5, u, f, q, s, m, n, t⟩ = (s, true) by unfold footK; rw [hr]; rfl]
  have HR := hid hr
  have HO := hid ho
  have A0 : Hid (BoxedC w (w.alloc (.cells (cellsOf ⟨5, u, f, q, s, m, n, t⟩) 69)) w.heap.size ⟨5, u, f, q, s, m, n, t⟩) := hid (BoxedC.start w _)
  clear hr ho
  go_enter Tryz.func43, Tryz.ntmps43
  go_wp2_with fail
  with_reducible refine (refright7 ⟨5, u, f, q, s, m, n, t⟩ _ HO.out hf hp).mono ?_
  rw [HR.out]
  rintro e w1 ⟨rfl, hb⟩
  have A1 := hid (A0.out.on hb)
  clear hb A0
  obtain ⟨⟨c0, c1, c2, c3, c4, c5, c6, c7⟩, f0, f1, f2, f3, f4, f5, f6, f7⟩ := cells8 A1.out.1
  have IX := has_ix5
  have JX : ∀ W, (Instr.index 116 (.agg #[.bool true, .bool true, .bool true, .bool true, .bool false, .bool false]) (.int .i64 2)).run Tryz.prog W = .ok (.bool true) W := fun W => by kernel_rfl
  go_wp2_with fail
  go_region_held3 (fun w' => w'.cell? ⟨w.heap.size, 0, none⟩ = some (.int .i64 5))
    (first | with_reducible exact BoxedC.kind A1.out | with_reducible exact BoxedC.kind (BoxedC.drew A1.out) | with_reducible exact BoxedC.kind A2.out)
    (first
      | (go_at_call 67; (with_reducible refine (has_ref _).mono ?_); rintro e w2 ⟨rfl, hb2⟩; have A2 := hid (BoxedC.on (BoxedC.drew A1.out) hb2)))
  rename_i hHeld
  clear hHeld A1 hb2 c0 c1 c2 c3 c4 c5 c6 c7 f0 f1 f2 f3 f4 f5 f6 f7
  obtain ⟨⟨c0, c1, c2, c3, c4, c5, c6, c7⟩, f0, f1, f2, f3, f4, f5, f6, f7⟩ := cells8 A2.out.1
  go_wp2
  go_ret2
  exact ⟨rfl, A2.out.below⟩

set_option maxRecDepth 100000 in
set_option maxHeartbeats 2000000 in
theorem foot_6 (u : Int) (f : ByteArray) (q : Int) (s : ByteArray) (m n t : Int) (w : World) (ho : okK ⟨6, u, f, q, s, m, n, t⟩) (hr : rightK ⟨6, u, f, q, s, m, n, t⟩ = true) (hf : f.size ≤ 900) (hp : s.size ≤ 900) :
    Calls Tryz.prog 43 #[val ⟨6, u, f, q, s, m, n, t⟩] w fun e w' => e = .returned (.tuple #[.string (footK ⟨6, u, f, q, s, m, n, t⟩).1, .bool (footK ⟨6, u, f, q, s, m, n, t⟩).2]) ∧ Below w.heap.size w w' := by
  rw [show footK ⟨6, u, f, q, s, m, n, t⟩ = (s, true) by unfold footK; rw [hr]; rfl]
  have HR := hid hr
  have HO := hid ho
  have A0 : Hid (BoxedC w (w.alloc (.cells (cellsOf ⟨6, u, f, q, s, m, n, t⟩) 69)) w.heap.size ⟨6, u, f, q, s, m, n, t⟩) := hid (BoxedC.start w _)
  clear hr ho
  go_enter Tryz.func43, Tryz.ntmps43
  go_wp2_with fail
  with_reducible refine (refright7 ⟨6, u, f, q, s, m, n, t⟩ _ HO.out hf hp).mono ?_
  rw [HR.out]
  rintro e w1 ⟨rfl, hb⟩
  have A1 := hid (A0.out.on hb)
  clear hb A0
  obtain ⟨⟨c0, c1, c2, c3, c4, c5, c6, c7⟩, f0, f1, f2, f3, f4, f5, f6, f7⟩ := cells8 A1.out.1
  have IX := has_ix6
  have JX : ∀ W, (Instr.index 116 (.agg #[.bool true, .bool true, .bool true, .bool false, .bool false, .bool false]) (.int .i64 2)).run Tryz.prog W = .ok (.bool true) W := fun W => by kernel_rfl
  go_wp2_with fail
  go_region_held3 (fun w' => w'.cell? ⟨w.heap.size, 0, none⟩ = some (.int .i64 6))
    (first | with_reducible exact BoxedC.kind A1.out | with_reducible exact BoxedC.kind (BoxedC.drew A1.out) | with_reducible exact BoxedC.kind A2.out)
    (first
      | (go_at_call 67; (with_reducible refine (has_ref _).mono ?_); rintro e w2 ⟨rfl, hb2⟩; have A2 := hid (BoxedC.on (BoxedC.drew A1.out) hb2)))
  rename_i hHeld
  clear hHeld A1 hb2 c0 c1 c2 c3 c4 c5 c6 c7 f0 f1 f2 f3 f4 f5 f6 f7
  obtain ⟨⟨c0, c1, c2, c3, c4, c5, c6, c7⟩, f0, f1, f2, f3, f4, f5, f6, f7⟩ := cells8 A2.out.1
  go_wp2
  go_ret2
  exact ⟨rfl, A2.out.below⟩

set_option maxRecDepth 100000 in
set_option maxHeartbeats 2000000 in
theorem foot_7 (u : Int) (f : ByteArray) (q : Int) (s : ByteArray) (m n t : Int) (w : World) (ho : okK ⟨7, u, f, q, s, m, n, t⟩) (hr : rightK ⟨7, u, f, q, s, m, n, t⟩ = true) (hf : f.size ≤ 900) (hp : s.size ≤ 900) :
    Calls Tryz.prog 43 #[val ⟨7, u, f, q, s, m, n, t⟩] w fun e w' => e = .returned (.tuple #[.string (footK ⟨7, u, f, q, s, m, n, t⟩).1, .bool (footK ⟨7, u, f, q, s, m, n, t⟩).2]) ∧ Below w.heap.size w w' := by
  rw [show footK ⟨7, u, f, q, s, m, n, t⟩ = (s, true) by unfold footK; rw [hr]; rfl]
  have HR := hid hr
  have HO := hid ho
  have A0 : Hid (BoxedC w (w.alloc (.cells (cellsOf ⟨7, u, f, q, s, m, n, t⟩) 69)) w.heap.size ⟨7, u, f, q, s, m, n, t⟩) := hid (BoxedC.start w _)
  clear hr ho
  go_enter Tryz.func43, Tryz.ntmps43
  go_wp2_with fail
  with_reducible refine (refright7 ⟨7, u, f, q, s, m, n, t⟩ _ HO.out hf hp).mono ?_
  rw [HR.out]
  rintro e w1 ⟨rfl, hb⟩
  have A1 := hid (A0.out.on hb)
  clear hb A0
  obtain ⟨⟨c0, c1, c2, c3, c4, c5, c6, c7⟩, f0, f1, f2, f3, f4, f5, f6, f7⟩ := cells8 A1.out.1
  have IX := has_ix7
  have JX : ∀ W, (Instr.index 116 (.agg #[.bool true, .bool true, .bool true, .bool false, .bool true, .bool false]) (.int .i64 2)).run Tryz.prog W = .ok (.bool true) W := fun W => by kernel_rfl
  go_wp2_with fail
  go_region_held3 (fun w' => w'.cell? ⟨w.heap.size, 0, none⟩ = some (.int .i64 7))
    (first | with_reducible exact BoxedC.kind A1.out | with_reducible exact BoxedC.kind (BoxedC.drew A1.out) | with_reducible exact BoxedC.kind A2.out)
    (first
      | (go_at_call 67; (with_reducible refine (has_ref _).mono ?_); rintro e w2 ⟨rfl, hb2⟩; have A2 := hid (BoxedC.on (BoxedC.drew A1.out) hb2)))
  rename_i hHeld
  clear hHeld A1 hb2 c0 c1 c2 c3 c4 c5 c6 c7 f0 f1 f2 f3 f4 f5 f6 f7
  obtain ⟨⟨c0, c1, c2, c3, c4, c5, c6, c7⟩, f0, f1, f2, f3, f4, f5, f6, f7⟩ := cells8 A2.out.1
  go_wp2
  go_ret2
  exact ⟨rfl, A2.out.below⟩

set_option maxRecDepth 100000 in
set_option maxHeartbeats 2000000 in
theorem foot_8 (u : Int) (f : ByteArray) (q : Int) (s : ByteArray) (m n t : Int) (w : World) (ho : okK ⟨8, u, f, q, s, m, n, t⟩) (hr : rightK ⟨8, u, f, q, s, m, n, t⟩ = true) (hf : f.size ≤ 900) (hp : s.size ≤ 900) :
    Calls Tryz.prog 43 #[val ⟨8, u, f, q, s, m, n, t⟩] w fun e w' => e = .returned (.tuple #[.string (footK ⟨8, u, f, q, s, m, n, t⟩).1, .bool (footK ⟨8, u, f, q, s, m, n, t⟩).2]) ∧ Below w.heap.size w w' := by
  rw [show footK ⟨8, u, f, q, s, m, n, t⟩ = (f, true) by unfold footK; rw [hr]; rfl]
  have HR := hid hr
  have HO := hid ho
  have A0 : Hid (BoxedC w (w.alloc (.cells (cellsOf ⟨8, u, f, q, s, m, n, t⟩) 69)) w.heap.size ⟨8, u, f, q, s, m, n, t⟩) := hid (BoxedC.start w _)
  clear hr ho
  go_enter Tryz.func43, Tryz.ntmps43
  go_wp2_with fail
  with_reducible refine (refright7 ⟨8, u, f, q, s, m, n, t⟩ _ HO.out hf hp).mono ?_
  rw [HR.out]
  rintro e w1 ⟨rfl, hb⟩
  have A1 := hid (A0.out.on hb)
  clear hb A0
  obtain ⟨⟨c0, c1, c2, c3, c4, c5, c6, c7⟩, f0, f1, f2, f3, f4, f5, f6, f7⟩ := cells8 A1.out.1
  have IX := has_ix8
  have JX : ∀ W, (Instr.index 116 (.agg #[.bool true, .bool false, .bool false, .bool false, .bool false, .bool true]) (.int .i64 2)).run Tryz.prog W = .ok (.bool false) W := fun W => by kernel_rfl
  go_wp2_with fail
  go_region_held3 (fun w' => w'.cell? ⟨w.heap.size, 0, none⟩ = some (.int .i64 8))
    (first | with_reducible exact BoxedC.kind A1.out | with_reducible exact BoxedC.kind (BoxedC.drew A1.out) | with_reducible exact BoxedC.kind A2.out)
    (first
      | (go_at_call 67; (with_reducible refine (has_ref _).mono ?_); rintro e w2 ⟨rfl, hb2⟩; have A2 := hid (BoxedC.on (BoxedC.drew A1.out) hb2)))
  rename_i hHeld
  clear hHeld A1 hb2 c0 c1 c2 c3 c4 c5 c6 c7 f0 f1 f2 f3 f4 f5 f6 f7
  obtain ⟨⟨c0, c1, c2, c3, c4, c5, c6, c7⟩, f0, f1, f2, f3, f4, f5, f6, f7⟩ := cells8 A2.out.1
  go_wp2
  go_ret2
  exact ⟨rfl, A2.out.below⟩

theorem refoot_any (c : K) (w : World) (ho : okK c) (hf : c.foot.size ≤ 900) (hp : c.path.size ≤ 900) :
    Calls Tryz.prog 43 #[val c] w fun e w' => e = .returned (.tuple #[.string (footK c).1, .bool (footK c).2]) ∧ Below w.heap.size w w' := by
  obtain ⟨k, u, f, q, s, m, n, t⟩ := c
  cases hr : rightK ⟨k, u, f, q, s, m, n, t⟩
  · rw [show footK ⟨k, u, f, q, s, m, n, t⟩ = (⟨#[]⟩, false) by unfold footK; rw [hr]; rfl]
    have HR := hid hr
    have HO := hid ho
    have A0 : Hid (BoxedC w (w.alloc (.cells (cellsOf ⟨k, u, f, q, s, m, n, t⟩) 69)) w.heap.size ⟨k, u, f, q, s, m, n, t⟩) := hid (BoxedC.start w _)
    clear hr ho
    go_enter Tryz.func43, Tryz.ntmps43
    go_wp2_with fail
    with_reducible refine (refright7 ⟨k, u, f, q, s, m, n, t⟩ _ HO.out hf hp).mono ?_
    rw [HR.out]
    rintro e w1 ⟨rfl, hb⟩
    have A1 := hid (A0.out.on hb)
    clear hb A0
    go_wp2
    go_ret2
    exact ⟨rfl, A1.out.below⟩
  · have hk := right_kind hr
    simp only at hk
    have : k = 0 ∨ k = 1 ∨ k = 2 ∨ k = 3 ∨ k = 4 ∨ k = 5 ∨ k = 6 ∨ k = 7 ∨ k = 8 := by omega
    rcases this with rfl | rfl | rfl | rfl | rfl | rfl | rfl | rfl | rfl
    · exact foot_0 u f q s m n t w ho hr hf hp
    · exact foot_1 u f q s m n t w ho hr hf hp
    · exact foot_2 u f q s m n t w ho hr hf hp
    · exact foot_3 u f q s m n t w ho hr hf hp
    · exact foot_4 u f q s m n t w ho hr hf hp
    · exact foot_5 u f q s m n t w ho hr hf hp
    · exact foot_6 u f q s m n t w ho hr hf hp
    · exact foot_7 u f q s m n t w ho hr hf hp
    · exact foot_8 u f q s m n t w ho hr hf hp

end Go.Proofs.YtpdfakjopeldmaaGreatDoor
