/-
  The contract of log.first: the record of the whole frame that bytes begin with, or none.
-/
import Derived.Test.YtilocedppkmikaaGOpn
import Derived.Test.YtilocedppkmikaaNRead
namespace Go.Proofs.Ytilocedppkmikaa
open Go.RowKit

theorem open_as (b o : Nat) (p : List Nat) (n v c : Nat) (w : World) (hv : v = n + 4) (hp : p.length = n) (hn : n ≤ 140737488351232) (hc : v ≤ c) (xp : ∀ x ∈ p, x < 256) (hA : Sees .u8 w (some ⟨b, o, none⟩) (sealed p)) :
    Calls Try.prog 28 #[.slice (some ⟨b, o, none⟩) v c] w (OpensOwn p n w) := by
  subst hv
  exact open_own b o p (le4 (crcOf p)) n c w hp (le4_len _) hn hc xp hA rfl

theorem open_not (b o : Nat) (p t : List Nat) (n v c : Nat) (w : World) (hv : v = n + 4) (hp : p.length = n) (ht : t.length = 4) (hn : n ≤ 140737488351232) (hc : v ≤ c) (xp : ∀ x ∈ p, x < 256) (hA : Sees .u8 w (some ⟨b, o, none⟩) (p ++ t)) (xt : ∀ x ∈ t, x < 256) (hs : t ≠ le4 (crcOf p)) :
    Calls Try.prog 28 #[.slice (some ⟨b, o, none⟩) v c] w (fun e w' => e = .returned (.tuple #[.slice none 0 0, .int .i64 23]) ∧ Below w.heap.size w w') := by
  subst hv
  exact open_no b o p t n c w hp ht hn hc xp hA xt hs

/-- From a place on, so many bytes: the run of the cut, in the walk's words. -/
theorem cut_words {w0 : World} {A : Option Addr} {l : List Nat} {n c a v : Nat} (hn : l.length = n) (hm : a + v ≤ n) (hc : n ≤ c) (h : Sees .u8 w0 A l) (hA : A = none → c = 0) :
    ∃ A1, (∀ w, (Instr.slice 22 (.slice A n c) (some (.int .i64 (a : Int))) (some (.int .i64 ((a : Int) + (v : Int)))) none).run Try.prog w = .ok (.slice A1 v (c - a)) w) ∧ (A1 = none → c - a = 0) ∧ Sees .u8 w0 A1 ((l.drop a).take v) := by
  obtain ⟨i0, hi, hz0, hz1, hz2⟩ := info_parts info_u8
  obtain ⟨A1, h1, h2, h3⟩ := cut_mid 22 5 i0 Try.underlying22 hi hz1 hn (show a ≤ a + v by omega) hm hc h.held hA
  simp only [Nat.add_sub_cancel_left, Int.natCast_add] at h1 h3
  exact ⟨A1, h1, h2, h3.sees (Nat.le_refl _)⟩

theorem sees_addr {w : World} {A : Option Addr} {l : List Nat} (h : Sees .u8 w A l) (h0 : 0 < l.length) : ∃ b o, A = some ⟨b, o, none⟩ := by
  obtain ⟨b, o, h1, _, _⟩ := h 0 _ (List.getElem?_eq_getElem h0)
  exact ⟨b, o, h1⟩

/-- What first hands back, where a whole frame stands at the beginning. -/
def FirstOwn (r : List Nat) (w : World) (e : Ending) (w' : World) : Prop :=
  ∃ s, e = .returned (.tuple #[s, .int .i64 ((frameN r).length : Int), .bool true]) ∧ w'.ownsRow w.heap.size 5 1 s r.length (r.map bv) ∧ Below w.heap.size w w'

theorem first_value {r : List Nat} {s : Value} {x : Int} (h : x = ((frameN r).length : Int)) : Ending.returned (.tuple #[s, .int .i64 x, .bool true]) = .returned (.tuple #[s, .int .i64 ((frameN r).length : Int), .bool true]) := by rw [h]

set_option maxRecDepth 100000 in
set_option maxHeartbeats 400000 in
theorem first_ok (A : Option Addr) (l r m : List Nat) (n c : Nat) (w : World) (hln : l.length = n) (hl : n ≤ 140737488351232) (hc : n ≤ c) (hA0 : A = none → c = 0) (h8 : ∀ x ∈ l, x < 256) (hA : Sees .u8 w A l) (hr : r.length ≤ 16384) (e : l = frameN r ++ m) :
    Calls Try.prog 21 #[.slice A n c] w (FirstOwn r w) := by
  obtain ⟨v, hv⟩ : ∃ v, v = r.length + 4 := ⟨_, rfl⟩
  obtain ⟨a, ha⟩ : ∃ a, a = (shortN v).length := ⟨_, rfl⟩
  have HR : Hid (readN l = (v, a, 0)) := hid (by rw [e, ha, hv]; exact frame_read r m hr)
  have hlen : a + v ≤ n := by rw [← hln, e, List.length_append, frameN_len, ← hv, ← ha]; omega
  have HFL : Hid ((frameN r).length = a + v) := hid (by rw [frameN_len, ← hv, ← ha])
  have ha3 : a ≤ 3 := by rw [ha]; exact shortN_len3 (by omega)
  have xr : ∀ x ∈ r, x < 256 := fun x hx => h8 x (by rw [e]; unfold frameN sealed; simp [hx])
  obtain ⟨A1, hrun, _, hs1⟩ := cut_words (a := a) (v := v) hln hlen hc hA hA0
  have ecut : (l.drop a).take v = sealed r := by
    rw [e, ha]
    unfold frameN
    rw [hv, List.append_assoc, List.drop_left' rfl, List.take_left' (sealed_len r)]
  rw [ecut] at hs1
  obtain ⟨b, o, rfl⟩ := sees_addr hs1 (by rw [sealed_len]; omega)
  have HS1 := hid hs1
  have HA := hid hA
  have H8 := hid h8
  have HLN := hid hln
  have XR := hid xr
  obtain ⟨q, hq⟩ : ∃ q, r.length = q := ⟨_, rfl⟩
  have hvq : v = q + 4 := by omega
  have hvb : v ≤ 16388 := by omega
  have HQ := hid hq
  have HV := hid hvq
  have hlen2 : (a : Int) + (v : Int) ≤ (n : Int) := by omega
  have hcap : v ≤ c - a := by omega
  have hq9 : q ≤ 16384 := by omega
  clear hA h8 hln xr hs1 ecut e hv ha hr hvq hq hA0
  go_enter Try.func21, Try.ntmps21
  go_wp2_with (first
    | (go_at_call 27; ((with_reducible refine (readshort_as A l n c _ (by omega) HLN.out H8.out HA.out).mono ?_); rintro e w' ⟨rfl, rfl⟩; rw [HR.out]))
    | (go_at_call 28; ((with_reducible refine (open_as b o r q v (c - a) _ HV.out HQ.out (by omega) hcap XR.out HS1.out).mono ?_); rintro e w2 ⟨s, rfl, hown, hb⟩; have HO := hid hown; have HB := hid hb; clear hown hb)))
  go_ret3
  exact ⟨s, first_value (by rw [HFL.out]; omega), by rw [HQ.out]; exact HO.out, HB.out⟩

/-- What first hands back, where none stands there. -/
def FirstNo (w : World) (e : Ending) (w' : World) : Prop := e = .returned (.tuple #[.slice none 0 0, .int .i64 0, .bool false]) ∧ Below w.heap.size w w'

set_option maxRecDepth 100000 in
set_option maxHeartbeats 400000 in
theorem first_no (A : Option Addr) (l : List Nat) (n c : Nat) (w : World) (hln : l.length = n) (hl : n ≤ 140737488351232) (hc : n ≤ c) (hA0 : A = none → c = 0) (h8 : ∀ x ∈ l, x < 256) (hA : Sees .u8 w A l) (ht : Torn l) :
    Calls Try.prog 21 #[.slice A n c] w (FirstNo w) := by
  obtain ⟨v, a, e, hr⟩ : ∃ v a e, readN l = (v, a, e) := ⟨_, _, _, rfl⟩
  have HR := hid hr
  have HA := hid hA
  have H8 := hid h8
  have HLN := hid hln
  by_cases he : e = 0
  · obtain rfl := he
    have hinv := readN_inv h8 hr
    have hv64 : v < 18446744073709551616 := hinv.2.2.2
    have han : a ≤ n := by rw [← hln]; exact hinv.2.1
    by_cases hbig : 16388 < v
    · clear hA h8 hln ht hinv hr hA0
      have hbi : ¬ (v : Int) ≤ 16388 := by omega
      go_enter Try.func21, Try.ntmps21
      go_wp2_with (first
        | (go_at_call 27; ((with_reducible refine (readshort_as A l n c _ (by omega) HLN.out H8.out HA.out).mono ?_); rintro e w' ⟨rfl, rfl⟩; rw [HR.out])))
      go_ret3
      exact ⟨rfl, Below.refl _ _⟩
    · have ha3 : a ≤ 3 := by rw [hinv.1]; exact shortN_len3 (by omega)
      by_cases hlong : n < a + v
      · clear hA h8 hln ht hinv hr hA0
        have hlo : ¬ (a : Int) + (v : Int) ≤ (n : Int) := by omega
        have hbi : (v : Int) ≤ 16388 := by omega
        go_enter Try.func21, Try.ntmps21
        go_wp2_with (first
          | (go_at_call 27; ((with_reducible refine (readshort_as A l n c _ (by omega) HLN.out H8.out HA.out).mono ?_); rintro e w' ⟨rfl, rfl⟩; rw [HR.out])))
        go_ret3
        exact ⟨rfl, Below.refl _ _⟩
      · have hlen : a + v ≤ n := by omega
        obtain ⟨A1, hrun, _, hs1⟩ := cut_words (a := a) (v := v) hln hlen hc hA hA0
        have hlen2 : (a : Int) + (v : Int) ≤ (n : Int) := by omega
        have hcap : v ≤ c - a := by omega
        have hbi : (v : Int) ≤ 16388 := by omega
        by_cases h4 : v < 4
        · clear hA h8 hln ht hinv hr hA0 hs1
          go_enter Try.func21, Try.ntmps21
          go_wp2_with (first
            | (go_at_call 27; ((with_reducible refine (readshort_as A l n c _ (by omega) HLN.out H8.out HA.out).mono ?_); rintro e w' ⟨rfl, rfl⟩; rw [HR.out]))
            | (go_at_call 28; ((with_reducible refine (open_short A1 v (c - a) _ h4).mono ?_); rintro e w2 ⟨rfl, rfl⟩)))
          go_ret3
          exact ⟨rfl, Below.refl _ _⟩
        · obtain ⟨p, t, hpt, hp, htl⟩ : ∃ p t, (l.drop a).take v = p ++ t ∧ p.length = v - 4 ∧ t.length = 4 := by
            have hL : ((l.drop a).take v).length = v := by rw [List.length_take, List.length_drop]; omega
            exact ⟨((l.drop a).take v).take (v - 4), ((l.drop a).take v).drop (v - 4), (List.take_append_drop _ _).symm, by rw [List.length_take]; omega, by rw [List.length_drop]; omega⟩
          have hxs : ∀ x ∈ p ++ t, x < 256 := fun x hx => h8 x (List.mem_of_mem_drop (List.mem_of_mem_take (hpt ▸ hx)))
          have HNE : Hid (t ≠ le4 (crcOf p)) := hid (fun h => by
            obtain ⟨e1, e2, e3⟩ := frame_of h8 hr (by omega) p t hpt htl h
            exact ht p _ (by omega) e1)
          rw [hpt] at hs1
          obtain ⟨b, o, rfl⟩ := sees_addr hs1 (by rw [List.length_append]; omega)
          have HS1 := hid hs1
          have XP : Hid (∀ x ∈ p, x < 256) := hid (fun x hx => hxs x (List.mem_append_left _ hx))
          have XT : Hid (∀ x ∈ t, x < 256) := hid (fun x hx => hxs x (List.mem_append_right _ hx))
          obtain ⟨q, hq⟩ : ∃ q, q = v - 4 := ⟨_, rfl⟩
          have HV : Hid (v = q + 4) := hid (by omega)
          have HQ : Hid (p.length = q) := hid (by omega)
          have HT := hid htl
          have hq9 : q ≤ 16384 := by omega
          clear hA h8 hln ht hinv hr hA0 hs1 hpt hp htl hxs hq
          go_enter Try.func21, Try.ntmps21
          go_wp2_with (first
            | (go_at_call 27; ((with_reducible refine (readshort_as A l n c _ (by omega) HLN.out H8.out HA.out).mono ?_); rintro e w' ⟨rfl, rfl⟩; rw [HR.out]))
            | (go_at_call 28; ((with_reducible refine (open_not b o p t q v (c - a) _ HV.out HQ.out HT.out (by omega) hcap XP.out HS1.out XT.out HNE.out).mono ?_); rintro e w2 ⟨rfl, hb⟩; have HB := hid hb; clear hb)))
          go_ret3
          exact ⟨rfl, HB.out⟩
  · have he2 : ¬ (e : Int) = 0 := by omega
    clear hA h8 hln ht hr hA0
    go_enter Try.func21, Try.ntmps21
    go_wp2_with (first
      | (go_at_call 27; ((with_reducible refine (readshort_as A l n c _ (by omega) HLN.out H8.out HA.out).mono ?_); rintro e w' ⟨rfl, rfl⟩; rw [HR.out])))
    go_ret3
    exact ⟨rfl, Below.refl _ _⟩

end Go.Proofs.Ytilocedppkmikaa
