/-
  The law's step: Send.
-/
import Derived.Test.YtljnboimadhkoaaNtStep
namespace Go.Proofs.Ytljnboimadhkoaa
open Go.ChangeShapes Go.WideShapes Go.ChangeAt Go.RowKit
set_option linter.unusedVariables false
set_option linter.unusedSimpArgs false

theorem sendE_a {lim : Int} {n : Nat} {f : FrL} {k : Nat} (h : f.fr < 0 ∨ 6 < f.fr ∨ f.to < 0 ∨ 6 < f.to) : sendE lim n f k = 12 := by
  unfold sendE knownB
  rw [if_pos (by simp; omega)]
theorem sendE_b {lim : Int} {n : Nat} {f : FrL} {k : Nat} (h : ¬ (f.fr < 0 ∨ 6 < f.fr ∨ f.to < 0 ∨ 6 < f.to)) : sendE lim n f k = if 512 < k then 11 else if lim ≤ (n : Int) then 14 else 0 := by
  unfold sendE knownB
  rw [if_neg (by simp; omega)]
set_option maxRecDepth 100000 in
set_option maxHeartbeats 2000000 in
theorem ntstep_send_no (N B g : Nat) (lim : Int) (v : Value) (lp : List FrV) (rv : Value) (lr : List FrV) (o : OpN) (w : World) (h : BothN w N B g lim v lp rv lr) (h1 : o.kind = 1) (hn9 : o.f.d.length ≤ 9223372036854775807) (hno : sendE lim lr.length o.f o.f.d.length ≠ 0) :
    Calls Try.prog 7 #[.pointer (some ⟨g, 0, none⟩), rv, .int .i64 lim, .agg (opNC o)] w (StepN N B g lim w) := by
  have HB := hid h
  have HSend := hid (fun w1 (hb : Below w.heap.size w w1) => ntsend_no B g lim v lp o.f o.A o.f.d.length o.c w1 (h.net.on hb) hn9 (by rw [h.len]; exact hno))
  rw [h.len] at HSend
  have hm9 : lr.length ≤ 4096 := by rw [← h.len]; exact h.net.len
  have hlim := h.net.few
  obtain ⟨R, rc, hrv⟩ := own_shapeN h.ref.row
  obtain ⟨m, hm⟩ : ∃ m, lr.length = m := ⟨_, rfl⟩
  rw [hm] at hrv HSend hno hm9
  subst hrv
  obtain ⟨kd, i, bit, ⟨fr, to, d⟩, A, c⟩ := o
  simp only at h1
  subst h1
  obtain ⟨n, hn⟩ : ∃ n, d.length = n := ⟨_, rfl⟩
  have HA := hid (fun h => sendE_a (lim := lim) (n := m) (f := ⟨fr, to, d⟩) (k := n) h)
  have HBb := hid (fun h => sendE_b (lim := lim) (n := m) (f := ⟨fr, to, d⟩) (k := n) h)
  obtain ⟨er, her⟩ : ∃ er, sendE lim m ⟨fr, to, d⟩ n = er := ⟨_, rfl⟩
  simp only [hn] at HSend hno hn9
  simp only [her] at HSend hno HA HBb
  have HNo := hid hno
  clear h hm her hno
  simp only [opNC, hn]
  go_enter Try.func7, Try.ntmps7
  go_upto_region 1 with fail
  obtain ⟨W, hW⟩ : ∃ W, w.alloc (.cells #[.int .i64 1, .int .i64 i, .int .i64 bit, .int .i64 fr, .int .i64 to, .slice A n c] 34) = W := ⟨_, rfl⟩
  rw [hW]
  obtain ⟨K0, KB⟩ := lone_new hW
  obtain ⟨k, hk⟩ : ∃ k, w.heap.size = k := ⟨_, rfl⟩
  rw [hk] at K0 ⊢
  clear hW hk
  obtain ⟨c0, c1, c2, c3, c4, c5⟩ := lcells6N K0.out
  have fin : ∀ x : Bool, True := fun _ => trivial
  by_cases hi : 0 ≤ i
  all_goals (
    go_upto_region 5 with fail
    obtain ⟨W4, hW4⟩ : ∃ W4, W.alloc (.cells #[.int .i64 fr, .int .i64 to, .slice A n c] 32) = W4 := ⟨_, rfl⟩
    rw [hW4]
    obtain ⟨K4, KB4⟩ := lone_new hW4
    have B4 := hid (below_on KB.out KB4.out)
    have HS := hid (HSend.out W4 B4.out)
    obtain ⟨k4, hk4⟩ : ∃ k, W.heap.size = k := ⟨_, rfl⟩
    rw [hk4] at K4 ⊢
    clear hW4 hk4 c0 c1 c2 c3 c4 c5
    obtain ⟨d0, d1, d2⟩ := lcells3N K4.out
    go_upto_region 6 with (go_at_call 13; (with_reducible refine HS.out.mono ?_); rintro e w5 ⟨rfl, b5⟩; have B5 := hid (below_on B4.out b5); have K5 := hid (K4.out.below b5 K4.out.lt); clear b5 d0 d1 d2)
    obtain ⟨d0, d1, d2⟩ := lcells3N K5.out
    by_cases q1 : fr < 0
    · have hr := HA.out (.inl q1)
      subst hr
      go_wp2
      refine bodyPost_ret (v := .tuple #[.slice R m rc, .bool true]) (by simp [results, Try.results7, go_sem]) rfl (HB.out.stepped B5.out)
    by_cases q2 : 6 < fr
    · have hr := HA.out (.inr (.inl q2))
      subst hr
      go_wp2
      refine bodyPost_ret (v := .tuple #[.slice R m rc, .bool true]) (by simp [results, Try.results7, go_sem]) rfl (HB.out.stepped B5.out)
    by_cases q3 : to < 0
    · have hr := HA.out (.inr (.inr (.inl q3)))
      subst hr
      go_wp2
      refine bodyPost_ret (v := .tuple #[.slice R m rc, .bool true]) (by simp [results, Try.results7, go_sem]) rfl (HB.out.stepped B5.out)
    by_cases q4 : 6 < to
    · have hr := HA.out (.inr (.inr (.inr q4)))
      subst hr
      go_wp2
      refine bodyPost_ret (v := .tuple #[.slice R m rc, .bool true]) (by simp [results, Try.results7, go_sem]) rfl (HB.out.stepped B5.out)
    have hr0 := HBb.out (by omega)
    by_cases q5 : (512 : Int) < (n : Int)
    · have hr : er = 11 := by rw [hr0, if_pos (by omega)]
      subst hr
      clear hr0
      go_wp2
      refine bodyPost_ret (v := .tuple #[.slice R m rc, .bool true]) (by simp [results, Try.results7, go_sem]) rfl (HB.out.stepped B5.out)
    by_cases q6 : lim ≤ (m : Int)
    · have hr : er = 14 := by rw [hr0, if_neg (by omega), if_pos q6]
      subst hr
      clear hr0
      go_wp2
      refine bodyPost_ret (v := .tuple #[.slice R m rc, .bool true]) (by simp [results, Try.results7, go_sem]) rfl (HB.out.stepped B5.out)
    exact absurd (by rw [hr0, if_neg (by omega), if_neg q6]) HNo.out)
end Go.Proofs.Ytljnboimadhkoaa
