/-
  A range over a book's map; the contract of lease's opened.
-/
import Derived.Test.YtbeeklpfbnhdnaaLsTell
namespace Go.Proofs.Ytbeeklpfbnhdnaa
open Go.ChangeShapes Go.WideShapes Go.ChangeAt Go.RowKit Go.Maps Go.WideMaps
set_option linter.unusedVariables false
set_option linter.unusedSimpArgs false

theorem RiseL.nodup {l : List SeL} (h : RiseL l) : l.Nodup := by
  refine List.Pairwise.imp (fun {a b} hab => ?_) h
  rintro rfl
  rw [ltK_irr] at hab
  cases hab
theorem neqF {f g : ByteArray} (h : ¬ f = g) : (f.toList == g.toList) = false := by
  rw [beq_eq_false_iff_ne, ByteArray.toList_eq, ByteArray.toList_eq]
  intro e
  exact h (by cases f; cases g; simp at e; rw [e])
/-- The sessions that have come. -/
def KsAt (l : List SeL) (left : Lit → Bool) (ks : List SeL) : Prop := ks.Nodup ∧ (∀ s ∈ ks, s ∈ l ∧ left (slit s.num s.foot) = false) ∧ ∀ s ∈ l, left (slit s.num s.foot) = false → s ∈ ks
abbrev MapsD (l : List SeL) (D : DataW Value) : Prop :=
  (∀ u f, IsU u → OkF f → Maps.has D (slit u f) = (findL l u f).isSome ∧ ∀ x, findL l u f = some x → ∀ z, D.atKey (slit u f) z = .held (.agg (rowL x))) ∧ ∀ kl, Maps.has D kl = true → ∃ x ∈ l, kl = slit x.num x.foot
theorem KsAt.start {l : List SeL} {D : DataW Value} (hk : KeysL l) (hr : RiseL l) (h : MapsD l D) : KsAt l (Maps.has D) [] :=
  ⟨List.nodup_nil, fun s hs => (by cases hs), fun s hs h0 => by
    rw [(h.1 _ _ (hk s hs).1 (hk s hs).2).1, hr.find hs] at h0
    cases h0⟩
theorem KsAt.step {l : List SeL} {left : Lit → Bool} {ks : List SeL} (h : KsAt l left ks) (hk : KeysL l) (hr : RiseL l) {s : SeL} (hs : s ∈ l) (hlk : left (slit s.num s.foot) = true) :
    KsAt l (fun z => left z && !z.sameKey (slit s.num s.foot)) (ks ++ [s]) := by
  obtain ⟨h1, h2, h3⟩ := h
  have hself : (slit s.num s.foot).sameKey (slit s.num s.foot) = true := WideAt.sameKey_self (law_ses.key (keyof_ses (hk s hs).2.max (hk s hs).1))
  refine ⟨?_, ?_, ?_⟩
  · rw [List.nodup_append]
    refine ⟨h1, by simp, fun a ha b hb => ?_⟩
    rintro rfl
    simp at hb
    subst hb
    have := (h2 _ ha).2
    rw [hlk] at this
    cases this
  · intro y hy
    rcases List.mem_append.1 hy with hy | hy
    · exact ⟨(h2 y hy).1, by simp only; rw [(h2 y hy).2]; rfl⟩
    · simp at hy
      subst hy
      exact ⟨hs, by simp only; rw [hself]; simp⟩
  · intro y hy hq
    simp only [Bool.and_eq_false_iff] at hq
    rcases hq with hq | hq
    · exact List.mem_append_left _ (h3 y hy hq)
    · have hs2 : (slit y.num y.foot).sameKey (slit s.num s.foot) = true := by simpa using hq
      obtain ⟨k1, k2⟩ := slit_inj (hk y hy).2.max (hk y hy).1 (hk s hs).2.max (hk s hs).1 (WideAt.sameKey_eq hs2)
      rw [hr.one hy hs ⟨k1, k2⟩]
      simp
theorem KsAt.perm {l : List SeL} {left : Lit → Bool} {ks : List SeL} (h : KsAt l left ks) (hr : RiseL l) (h0 : ∀ kl, left kl = false) : ks.Perm l :=
  (List.perm_ext_iff_of_nodup h.1 hr.nodup).2 fun s => ⟨fun hs => (h.2.1 s hs).1, fun hs => h.2.2 s hs (h0 _)⟩
set_option maxRecDepth 100000 in
/-- What has come is a session of the book. -/
theorem entry_ses {l : List SeL} {D : DataW Value} (hk : KeysL l) (hr : RiseL l) (h : MapsD l D) {u : Int} {f : ByteArray} {c : Value} {kl : Lit} {y : DataW Value × List MemPlace}
    (hkey : keyOf Try.prog 25 (sesV u f) = some kl) (hh : Maps.has D kl = true) (hv : idR c = some y) (hat : ∀ zd, D.atKey kl zd = y.1) : ∃ s ∈ l, u = s.num ∧ f = s.foot ∧ c = .agg (cellsL s) ∧ kl = slit s.num s.foot := by
  obtain ⟨u2, f2, e, hf2, hu2, rfl⟩ := keyof_ses_inv hkey
  injection e with e
  obtain ⟨rfl, rfl⟩ : u = u2 ∧ f = f2 := by simpa using e
  obtain ⟨s, hs, e2⟩ := h.2 _ hh
  obtain ⟨rfl, rfl⟩ := slit_inj hf2 hu2 (hk s hs).2.max (hk s hs).1 e2
  refine ⟨s, hs, rfl, rfl, ?_, rfl⟩
  have h1 := (h.1 _ _ (hk s hs).1 (hk s hs).2).2 s (hr.find hs) (.held c)
  rw [hat] at h1
  unfold idR at hv
  injection hv with hv
  rw [← hv] at h1
  injection h1
theorem inv_ses : ∀ key kl, keyOf Try.prog 25 key = some kl → ∃ x : Int × ByteArray, key = sesV x.1 x.2 := fun key kl h => by
  obtain ⟨u, f, rfl, _⟩ := keyof_ses_inv h
  exact ⟨(u, f), rfl⟩
/-- Where a range over a book's map stands. -/
def RangeAt (w W : World) (d r n : Nat) (D : DataW Value) (l ks : List SeL) (left : Lit → Bool) (cnt : Nat) : Prop :=
  W.ranges Try.prog 25 idR d r n D left cnt ∧ (∀ kl, left kl = true → Maps.has D kl = true) ∧ KsAt l left ks ∧ Below w.heap.size w W ∧ w.heap.size ≤ r ∧ ks.length + cnt ≤ n
def isOpenF (f : ByteArray) (s : SeL) : Bool := s.opn && decide (s.foot = f)
theorem openL_eq (l : List SeL) (f : ByteArray) : openL l f = l.countP (isOpenF f) := rfl

set_option maxRecDepth 100000 in
set_option maxHeartbeats 4000000 in
theorem lopened_any (base b d n : Nat) (l : List SeL) (f : ByteArray) (w : World) (h : BkAt w base b d n l) (hn : n ≤ 1000000) :
    Calls Try.prog 37 #[.pointer (some ⟨b, 0, none⟩), .string f] w fun e w' => e = .returned (.int .i64 (openL l f : Int)) ∧ Below w.heap.size w w' := by
  have HB := hid h.blk
  have HL := hid h.lt
  have HR := hid (And.intro h.keys h.rise)
  obtain ⟨D, hD, hM⟩ := h.map
  have HD := hid hD
  have HM : Hid (MapsD l D) := hid hM
  have HN := hid hn
  clear h hD hM hn
  have hc : w.cell? ⟨b, 0, none⟩ = some (.map (some d)) := (HB.out.cell 0).trans rfl
  go_enter Try.func37, Try.ntmps37
  go_wp2_with (first
    | (at_range; with_reducible refine wpList_range_own _ rfl _ 75 rfl 25 89 law_ses Try.underlying75 idR d n D rfl HD.out ?_; intro w0 hrg0 hg0 hs0))
  go_frame
  obtain ⟨rr, hrr⟩ : ∃ r, w.heap.size = r := ⟨_, rfl⟩
  rw [hrr] at hrg0 hs0
  rw [hrr]
  have A0 : Hid (RangeAt w w0 d rr n D l [] (Maps.has D) (Maps.size D)) := hid ⟨hrg0, fun _ h => h, KsAt.start HR.out.1 HR.out.2 HM.out, lbelow_grown hg0, by omega, by have := HD.out.size_le; simpa using this⟩
  clear hrg0 hg0 hs0 hc
  go_loopw [5] (fun lv wr => ∃ ks left cnt, lv = .int .i64 ((List.countP (isOpenF f) ks : Nat) : Int) ∧ Hid (RangeAt w wr d rr n D l ks left cnt)) (fun _ wr => wr.rangeLeft d rr)
  case atStart => exact ⟨[], _, _, rfl, A0⟩
  case round =>
    obtain ⟨ks, left, cnt, rfl, HA⟩ := hrel
    clear A0
    have HG : Hid (wr.ranges Try.prog 25 idR d rr n D left cnt) := hid HA.out.1
    go_wp2_with (first
      | (at_next; with_reducible refine wpList_next_ranges _ rfl _ rfl 25 law_ses idR (fun x : Int × ByteArray => (sesV x.1 x.2 : Value)) (fun c : Value => c) inv_ses inv_any d rr n D left cnt rfl HG.out ?_ ?_))
    · intro _ hl0
      have HP := hid ((HA.out.2.2.1.perm HR.out.2 hl0).countP_eq (isOpenF f))
      have HB2 := hid HA.out.2.2.2.1
      clear hl0 HA HG
      go_wp2
      go_ret
      exact ⟨ret_num (by rw [HP.out, openL_eq]), HB2.out⟩
    · intro u2 f2 c kl y yp w1 cnt1 hkey hlk hv hat hrg1 hlt1 hg1 hs1 hen
      obtain ⟨s, hs, rfl, rfl, rfl, rfl⟩ := entry_ses (y := (y, yp)) HR.out.1 HR.out.2 HM.out hkey (HA.out.2.1 _ hlk) hv hat
      have HS := hid hs
      have HC2 := hid (HA.out.2.2.1.step HR.out.1 HR.out.2 hs hlk)
      have BG := hid hrg1
      have BH : Hid (∀ kl, (left kl && !kl.sameKey (slit s.num s.foot)) = true → Maps.has D kl = true) := hid (fun kl h => HA.out.2.1 kl (by simp at h; exact h.1))
      have BB : Hid (Below w.heap.size w w1) := hid (HA.out.2.2.2.1.trans (lbelow_only hg1 (by have := HA.out.2.2.2.2.1; omega) (by have := HG.out.lt; have := HA.out.2.2.2.1.size; omega)))
      have BL := hid hlt1
      have BT : Hid (wr.rangeLeft d rr = cnt) := hid HG.out.left_eq
      have BS : Hid (rr < w1.heap.size) := hid (by rw [hs1]; exact HG.out.lt)
      have BO := hid HA.out.2.2.2.2.1
      have BN : Hid (List.countP (isOpenF f) (ks ++ [s]) = List.countP (isOpenF f) ks + if isOpenF f s = true then 1 else 0) := hid (by simp [List.countP_append, List.countP_cons])
      have BK : Hid (List.countP (isOpenF f) ks ≤ 1000000) := hid (by
        have h1 := List.countP_le_length (p := isOpenF f) (l := ks)
        have := HA.out.2.2.2.2.2
        have := HN.out
        omega)
      have BC : Hid ((ks ++ [s]).length + cnt1 ≤ n) := hid (by have := HA.out.2.2.2.2.2; simp; omega)
      clear hkey hlk hv hat hrg1 hlt1 hg1 hs1 HA HG
      obtain ⟨num, foot, opn, dead, dl, ttl, told, m⟩ := s
      obtain ⟨tn, htn⟩ : ∃ x : Int, (told.length : Int) = x := ⟨_, rfl⟩
      simp only [cellsL] at hen ⊢
      rw [htn] at hen ⊢
      clear htn
      go_upto_region 5 with fail
      obtain ⟨W1, hW1⟩ : ∃ W1, (w1.alloc (.cells #[.int .u64 num, .string foot] 25)).alloc (.cells #[.bool opn, .bool dead, .int .i64 dl, .int .i64 ttl, .int .i64 tn, .map m] 89) = W1 := ⟨_, rfl⟩
      rw [hW1]
      obtain ⟨v, hv⟩ : ∃ v, w1.heap.size = v := ⟨_, rfl⟩
      obtain ⟨E6, E7, EB⟩ := ltwo_new hW1
      rw [hv] at E6 E7 EB BS ⊢
      have cG := hid (BG.out.kept (row := none) (by have h := EB.out; rw [← hv] at h; exact only_of_below h none) (by simp) (by simp))
      have cB : Hid (Below w.heap.size w W1) := hid (BB.out.trans (EB.out.mono (by have := BB.out.size; omega)))
      clear hv hW1 BB BG EB hen
      obtain ⟨z0, z1⟩ := lcells2 E6.out
      obtain ⟨d0, d1, d2, d3, d4, d5⟩ := lcells6 E7.out
      have KK : Hid (∀ c : Nat, c = List.countP (isOpenF f) (ks ++ [⟨num, foot, opn, dead, dl, ttl, told, m⟩]) → ∃ ks left cnt, Value.int .i64 (c : Int) = .int .i64 ((List.countP (isOpenF f) ks : Nat) : Int) ∧ Hid (RangeAt w W1 d rr n D l ks left cnt)) :=
        hid (fun c hc => ⟨_, _, _, by rw [hc], hid ⟨cG.out, BH.out, HC2.out, cB.out, BO.out, BC.out⟩⟩)
      have KM : Hid (W1.rangeLeft d rr < wr.rangeLeft d rr) := hid (by rw [cG.out.left_eq, BT.out]; exact BL.out)
      have BK' := BK.out
      cases opn with
      | false =>
        have HI : Hid (List.countP (isOpenF f) ks = List.countP (isOpenF f) (ks ++ [⟨num, foot, false, dead, dl, ttl, told, m⟩])) := hid (by rw [BN.out]; simp [isOpenF])
        go_wp2
        go_roundw
        case rel => exact KK.out _ HI.out
        case measure => exact KM.out
      | true =>
        by_cases hf : foot = f
        · subst hf
          have HI : Hid (List.countP (isOpenF foot) ks + 1 = List.countP (isOpenF foot) (ks ++ [⟨num, foot, true, dead, dl, ttl, told, m⟩])) := hid (by rw [BN.out]; simp [isOpenF])
          go_wp2
          go_roundw
          case rel => exact KK.out _ HI.out
          case measure => exact KM.out
        · have HI : Hid (List.countP (isOpenF f) ks = List.countP (isOpenF f) (ks ++ [⟨num, foot, true, dead, dl, ttl, told, m⟩])) := hid (by rw [BN.out]; simp [isOpenF, hf])
          have hq := neqF hf
          go_wp2
          go_roundw
          case rel => exact KK.out _ HI.out
          case measure => exact KM.out
end Go.Proofs.Ytbeeklpfbnhdnaa
